/- Shapes and layouts compared (as layer 6: P11, P12). -/
import Derived.Test.YtfmcbjlagdanjaaGreatDoorPk03
import Derived.Test.YtfmcbjlagdanjaaGreatDoorPk01
import Derived.Laws.OwnMore
import Derived.Laws.CopyOwn
import Derived.Maps.OwnSet
import Derived.Maps.Views
import Derived.Maps.AppendAt
import Derived.OwnWalk
import Derived.Test.YtfmcbjlagdanjaaGreatDoorProg
import Derived.Conc.MuLone
import Derived.Conc.MuData
import Derived.KernelRfl
import Derived.Deep.OwnRows
namespace Go.Proofs.YtfmcbjlagdanjaaGreatDoor
open Go.RowKit
set_option maxRecDepth 100000

instance (a b : Shp) : Decidable (a = b) :=
  decidable_of_iff (a.cl = b.cl ∧ a.wi = b.wi ∧ a.pl = b.pl ∧ a.ca = b.ca ∧ a.ino = b.ino ∧ a.qu = b.qu ∧ a.da = b.da ∧ a.jo = b.jo) ⟨fun h => Shp.ext h.1 h.2.1 h.2.2.1 h.2.2.2.1 h.2.2.2.2.1 h.2.2.2.2.2.1 h.2.2.2.2.2.2.1 h.2.2.2.2.2.2.2, fun h => by subst h; simp⟩
instance (a b : Lay) : Decidable (a = b) :=
  decidable_of_iff (a.bo = b.bo ∧ a.jr = b.jr ∧ a.jl = b.jl ∧ a.le = b.le ∧ a.ll = b.ll ∧ a.bi = b.bi ∧ a.bl = b.bl ∧ a.ta = b.ta ∧ a.tl = b.tl ∧ a.dt = b.dt ∧ a.dl = b.dl ∧ a.to = b.to ∧ a.sh = b.sh) ⟨fun h => Lay.ext h.1 h.2.1 h.2.2.1 h.2.2.2.1 h.2.2.2.2.1 h.2.2.2.2.2.1 h.2.2.2.2.2.2.1 h.2.2.2.2.2.2.2.1 h.2.2.2.2.2.2.2.2.1 h.2.2.2.2.2.2.2.2.2.1 h.2.2.2.2.2.2.2.2.2.2.1 h.2.2.2.2.2.2.2.2.2.2.2.1 h.2.2.2.2.2.2.2.2.2.2.2.2, fun h => by subst h; simp⟩
theorem int_ne {s t : Int} (h : ¬ s = t) : (s == t) = false := by simpa using h
theorem int_eq {s t : Int} (h : s = t) : (s == t) = true := by simpa using h

set_option maxHeartbeats 4000000 in
theorem eq_ly (d : Nat) (a b : Lay) (w : World) : (Op.equalIn (d + 3) 29 (lyV a) (lyV b)).run Tryz.prog w = .ok (decide (a = b)) w := by
  simp [go_sem]
  by_cases e : a = b
  · subst e
    simp
  · rw [decide_eq_false e]
    by_cases h0 : a.bo = b.bo
    case neg => rw [if_neg h0]
    rw [if_pos h0]
    by_cases h1 : a.jr = b.jr
    case neg => rw [if_neg h1]
    rw [if_pos h1]
    by_cases h2 : a.jl = b.jl
    case neg => rw [if_neg h2]
    rw [if_pos h2]
    by_cases h3 : a.le = b.le
    case neg => rw [if_neg h3]
    rw [if_pos h3]
    by_cases h4 : a.ll = b.ll
    case neg => rw [if_neg h4]
    rw [if_pos h4]
    by_cases h5 : a.bi = b.bi
    case neg => rw [if_neg h5]
    rw [if_pos h5]
    by_cases h6 : a.bl = b.bl
    case neg => rw [if_neg h6]
    rw [if_pos h6]
    by_cases h7 : a.ta = b.ta
    case neg => rw [if_neg h7]
    rw [if_pos h7]
    by_cases h8 : a.tl = b.tl
    case neg => rw [if_neg h8]
    rw [if_pos h8]
    by_cases h9 : a.dt = b.dt
    case neg => rw [if_neg h9]
    rw [if_pos h9]
    by_cases h10 : a.dl = b.dl
    case neg => rw [if_neg h10]
    rw [if_pos h10]
    by_cases h11 : a.to = b.to
    case neg => rw [if_neg h11]
    rw [if_pos h11]
    by_cases h12 : a.sh.cl = b.sh.cl
    case neg => rw [if_neg h12]
    rw [if_pos h12]
    by_cases h13 : a.sh.wi = b.sh.wi
    case neg => rw [if_neg h13]
    rw [if_pos h13]
    by_cases h14 : a.sh.pl = b.sh.pl
    case neg => rw [if_neg h14]
    rw [if_pos h14]
    by_cases h15 : a.sh.ca = b.sh.ca
    case neg => rw [if_neg h15]
    rw [if_pos h15]
    by_cases h16 : a.sh.ino = b.sh.ino
    case neg => rw [if_neg h16]
    rw [if_pos h16]
    by_cases h17 : a.sh.qu = b.sh.qu
    case neg => rw [if_neg h17]
    rw [if_pos h17]
    by_cases h18 : a.sh.da = b.sh.da
    case neg => rw [if_neg h18]
    rw [if_pos h18]
    by_cases h19 : a.sh.jo = b.sh.jo
    case neg => rw [if_neg h19]
    rw [if_pos h19]
    exact absurd (Lay.ext h0 h1 h2 h3 h4 h5 h6 h7 h8 h9 h10 h11 (Shp.ext h12 h13 h14 h15 h16 h17 h18 h19)) e
/-- Are two layouts the same? -/
def lyEq (a b : Lay) : Bool := decide (a = b)
theorem eq_ly_lit (x0 x1 x2 x3 x4 x5 x6 x7 x8 x9 x10 x11 x12 x13 x14 x15 x16 x17 x18 x19 y0 y1 y2 y3 y4 y5 y6 y7 y8 y9 y10 y11 y12 y13 y14 y15 y16 y17 y18 y19 : Int) (w : World) : (Op.equalIn 10000 29 (.agg #[.int .i64 x0, .int .i64 x1, .int .i64 x2, .int .i64 x3, .int .i64 x4, .int .i64 x5, .int .i64 x6, .int .i64 x7, .int .i64 x8, .int .i64 x9, .int .i64 x10, .int .i64 x11, .int .i64 x12, .int .i64 x13, .int .i64 x14, .int .i64 x15, .int .i64 x16, .int .i64 x17, .int .i64 x18, .int .i64 x19]) (.agg #[.int .i64 y0, .int .i64 y1, .int .i64 y2, .int .i64 y3, .int .i64 y4, .int .i64 y5, .int .i64 y6, .int .i64 y7, .int .i64 y8, .int .i64 y9, .int .i64 y10, .int .i64 y11, .int .i64 y12, .int .i64 y13, .int .i64 y14, .int .i64 y15, .int .i64 y16, .int .i64 y17, .int .i64 y18, .int .i64 y19])).run Tryz.prog w = .ok (lyEq (⟨x0, x1, x2, x3, x4, x5, x6, x7, x8, x9, x10, x11, ⟨x12, x13, x14, x15, x16, x17, x18, x19⟩⟩ : Lay) (⟨y0, y1, y2, y3, y4, y5, y6, y7, y8, y9, y10, y11, ⟨y12, y13, y14, y15, y16, y17, y18, y19⟩⟩ : Lay)) w := eq_ly 9997 (⟨x0, x1, x2, x3, x4, x5, x6, x7, x8, x9, x10, x11, ⟨x12, x13, x14, x15, x16, x17, x18, x19⟩⟩ : Lay) (⟨y0, y1, y2, y3, y4, y5, y6, y7, y8, y9, y10, y11, ⟨y12, y13, y14, y15, y16, y17, y18, y19⟩⟩ : Lay) w
end Go.Proofs.YtfmcbjlagdanjaaGreatDoor

/- A bitmap's struct laid into a box, and read out of it, in one step; planned by its contract. -/
namespace Go.Proofs.YtfmcbjlagdanjaaGreatDoor
open Go.RowKit
set_option maxRecDepth 100000

/-- The cells of a bitmap: its transaction, its layout, its bytes. -/
abbrev bmA (t : Option Addr) (l : Lay) (bo : Option Addr) (n c : Nat) : Array Value := #[.pointer t, .int .i64 l.bo, .int .i64 l.jr, .int .i64 l.jl, .int .i64 l.le, .int .i64 l.ll, .int .i64 l.bi, .int .i64 l.bl, .int .i64 l.ta, .int .i64 l.tl, .int .i64 l.dt, .int .i64 l.dl, .int .i64 l.to, .int .i64 l.sh.cl, .int .i64 l.sh.wi, .int .i64 l.sh.pl, .int .i64 l.sh.ca, .int .i64 l.sh.ino, .int .i64 l.sh.qu, .int .i64 l.sh.da, .int .i64 l.sh.jo, .slice bo n c]
abbrev bmV (t : Option Addr) (l : Lay) (bo : Option Addr) (n c : Nat) : Value := .agg (bmA t l bo n c)
theorem bm_size : (Tryz.prog.info? 96).map (·.size) = some 22 := by kernel_rfl
/-- A bitmap's store, its operands evaluated. -/
def BmStore (p v : Value) (o : Oper) (a : Act) (w : World) (next : Act → World → Prop) (Q : Exit → Act → World → Prop) : Prop :=
  Oper.wp Tryz.prog { o with op := .store 96 (.const p) (.const v) } a w next Q
theorem bm_store (d : Option Tmp) (x y : Operand) (t : TypeId) (p : String) (f : Array Edge) (g : Option (Nat × Bool)) (a : Act) (w : World) (next : Act → World → Prop) (Q : Exit → Act → World → Prop) :
    Oper.wp Tryz.prog ⟨d, .store 96 x y, t, p, f, g⟩ a w next Q = BmStore (a.eval x) (a.eval y) ⟨d, .assign x, t, p, f, g⟩ a w next Q := rfl
theorem BmStore.row {w : World} {b : Nat} {cs : Array Value} (h : w.heap[b]? = some (.cells cs 96 (0, 0))) (hs : cs.size = 22) (tx : Option Addr) (x0 x1 x2 x3 x4 x5 x6 x7 x8 x9 x10 x11 x12 x13 x14 x15 x16 x17 x18 x19 : Int) (bo : Option Addr) (n c : Nat) (o : Oper) (a : Act) (next : Act → World → Prop) (Q : Exit → Act → World → Prop) :
    BmStore (.pointer (some ⟨b, 0, none⟩)) (.agg #[.pointer tx, .int .i64 x0, .int .i64 x1, .int .i64 x2, .int .i64 x3, .int .i64 x4, .int .i64 x5, .int .i64 x6, .int .i64 x7, .int .i64 x8, .int .i64 x9, .int .i64 x10, .int .i64 x11, .int .i64 x12, .int .i64 x13, .int .i64 x14, .int .i64 x15, .int .i64 x16, .int .i64 x17, .int .i64 x18, .int .i64 x19, .slice bo n c]) o a w next Q = next (a.put o.dst undef) (w.setRow b #[.pointer tx, .int .i64 x0, .int .i64 x1, .int .i64 x2, .int .i64 x3, .int .i64 x4, .int .i64 x5, .int .i64 x6, .int .i64 x7, .int .i64 x8, .int .i64 x9, .int .i64 x10, .int .i64 x11, .int .i64 x12, .int .i64 x13, .int .i64 x14, .int .i64 x15, .int .i64 x16, .int .i64 x17, .int .i64 x18, .int .i64 x19, .slice bo n c]) := by
  have e : (Instr.storeAt 96 (.pointer (some ⟨b, 0, none⟩)) (.agg #[.pointer tx, .int .i64 x0, .int .i64 x1, .int .i64 x2, .int .i64 x3, .int .i64 x4, .int .i64 x5, .int .i64 x6, .int .i64 x7, .int .i64 x8, .int .i64 x9, .int .i64 x10, .int .i64 x11, .int .i64 x12, .int .i64 x13, .int .i64 x14, .int .i64 x15, .int .i64 x16, .int .i64 x17, .int .i64 x18, .int .i64 x19, .slice bo n c])).run Tryz.prog w = .ok () (w.setRow b #[.pointer tx, .int .i64 x0, .int .i64 x1, .int .i64 x2, .int .i64 x3, .int .i64 x4, .int .i64 x5, .int .i64 x6, .int .i64 x7, .int .i64 x8, .int .i64 x9, .int .i64 x10, .int .i64 x11, .int .i64 x12, .int .i64 x13, .int .i64 x14, .int .i64 x15, .int .i64 x16, .int .i64 x17, .int .i64 x18, .int .i64 x19, .slice bo n c]) := by
    simp only [Instr.storeAt, Instr.sureAddr, Sem.run_bind, Sem.run_pure, Result.andThen]
    exact run_storeVar_row w b 96 96 cs #[.pointer tx, .int .i64 x0, .int .i64 x1, .int .i64 x2, .int .i64 x3, .int .i64 x4, .int .i64 x5, .int .i64 x6, .int .i64 x7, .int .i64 x8, .int .i64 x9, .int .i64 x10, .int .i64 x11, .int .i64 x12, .int .i64 x13, .int .i64 x14, .int .i64 x15, .int .i64 x16, .int .i64 x17, .int .i64 x18, .int .i64 x19, .slice bo n c] h bm_size hs (by simp [Value.oneCell'])
  unfold BmStore Oper.wp execOp
  simp only [Act.eval, Sem.run_bind, e, Result.andThen_ok, Sem.run_pure]
  rfl
theorem BmStore.new (tx : Option Addr) (x0 x1 x2 x3 x4 x5 x6 x7 x8 x9 x10 x11 x12 x13 x14 x15 x16 x17 x18 x19 : Int) (bo : Option Addr) (n c : Nat) (o : Oper) (a : Act) (w : World) (next : Act → World → Prop) (Q : Exit → Act → World → Prop) :
    BmStore (.pointer (some ⟨w.heap.size, 0, none⟩)) (.agg #[.pointer tx, .int .i64 x0, .int .i64 x1, .int .i64 x2, .int .i64 x3, .int .i64 x4, .int .i64 x5, .int .i64 x6, .int .i64 x7, .int .i64 x8, .int .i64 x9, .int .i64 x10, .int .i64 x11, .int .i64 x12, .int .i64 x13, .int .i64 x14, .int .i64 x15, .int .i64 x16, .int .i64 x17, .int .i64 x18, .int .i64 x19, .slice bo n c]) o a (w.alloc (.cells #[.pointer none, .int .i64 0, .int .i64 0, .int .i64 0, .int .i64 0, .int .i64 0, .int .i64 0, .int .i64 0, .int .i64 0, .int .i64 0, .int .i64 0, .int .i64 0, .int .i64 0, .int .i64 0, .int .i64 0, .int .i64 0, .int .i64 0, .int .i64 0, .int .i64 0, .int .i64 0, .int .i64 0, .slice none 0 0] 96)) next Q = next (a.put o.dst undef) (w.alloc (.cells #[.pointer tx, .int .i64 x0, .int .i64 x1, .int .i64 x2, .int .i64 x3, .int .i64 x4, .int .i64 x5, .int .i64 x6, .int .i64 x7, .int .i64 x8, .int .i64 x9, .int .i64 x10, .int .i64 x11, .int .i64 x12, .int .i64 x13, .int .i64 x14, .int .i64 x15, .int .i64 x16, .int .i64 x17, .int .i64 x18, .int .i64 x19, .slice bo n c] 96)) := by
  rw [BmStore.row (heap_alloc_last w _) rfl, World.setRow_alloc_new]
/-- A bitmap's load, its operand evaluated. -/
def BmLoad (p : Value) (o : Oper) (a : Act) (w : World) (next : Act → World → Prop) (Q : Exit → Act → World → Prop) : Prop :=
  Oper.wp Tryz.prog { o with op := .load 96 (.const p) } a w next Q
theorem bm_load (d : Option Tmp) (x : Operand) (t : TypeId) (p : String) (f : Array Edge) (g : Option (Nat × Bool)) (a : Act) (w : World) (next : Act → World → Prop) (Q : Exit → Act → World → Prop) :
    Oper.wp Tryz.prog ⟨d, .load 96 x, t, p, f, g⟩ a w next Q = BmLoad (a.eval x) ⟨d, .assign x, t, p, f, g⟩ a w next Q := rfl
theorem BmLoad.row {w : World} {b : Nat} {cs : Array Value} (h : w.heap[b]? = some (.cells cs 96 (0, 0))) (hs : cs.size = 22) (o : Oper) (a : Act) (next : Act → World → Prop) (Q : Exit → Act → World → Prop) :
    BmLoad (.pointer (some ⟨b, 0, none⟩)) o a w next Q = next (a.put o.dst (.agg cs)) w := by
  have e : (Instr.loadAt 96 (.pointer (some ⟨b, 0, none⟩))).run Tryz.prog w = .ok (.agg cs) w := by
    simp only [Instr.loadAt, Instr.sureAddr, Sem.run_bind, Sem.run_pure, Result.andThen]
    exact run_loadVar_row w b 96 96 cs (0, 0) _ h Tryz.underlying96 rfl (by rw [hs]; exact bm_size)
  unfold BmLoad Oper.wp execOp
  simp only [Act.eval, Sem.run_bind, e, Result.andThen_ok, Sem.run_pure]
  rfl

attribute [local go_sem ↓ 100000] ly_store ly_load
attribute [local go_sem] LyStore.new LyStore.drew LyLoad.new LyLoad.drew
attribute [local go_sem 100000] eq_ly_lit
/-- Is the layout what Plan answers? -/
def lyOk (l : Lay) : Bool := decide (planE l.sh = 0) && lyEq (planL l.sh) l

set_option maxHeartbeats 2000000 in
theorem planned_any (l : Lay) (w : World) (hB : Bds w) :
    Calls Tryz.prog 100 #[lyV l] w fun e w' => e = .returned (.bool (lyOk l)) ∧ Below w.heap.size w w' := by
  have hn := newBox w (.cells #[.int .i64 l.bo, .int .i64 l.jr, .int .i64 l.jl, .int .i64 l.le, .int .i64 l.ll, .int .i64 l.bi, .int .i64 l.bl, .int .i64 l.ta, .int .i64 l.tl, .int .i64 l.dt, .int .i64 l.dl, .int .i64 l.to, .int .i64 l.sh.cl, .int .i64 l.sh.wi, .int .i64 l.sh.pl, .int .i64 l.sh.ca, .int .i64 l.sh.ino, .int .i64 l.sh.qu, .int .i64 l.sh.da, .int .i64 l.sh.jo] 29)
  have hB1 := hB.later hn (Nat.le_refl _)
  have hL : (w.alloc (.cells #[.int .i64 l.bo, .int .i64 l.jr, .int .i64 l.jl, .int .i64 l.le, .int .i64 l.ll, .int .i64 l.bi, .int .i64 l.bl, .int .i64 l.ta, .int .i64 l.tl, .int .i64 l.dt, .int .i64 l.dl, .int .i64 l.to, .int .i64 l.sh.cl, .int .i64 l.sh.wi, .int .i64 l.sh.pl, .int .i64 l.sh.ca, .int .i64 l.sh.ino, .int .i64 l.sh.qu, .int .i64 l.sh.da, .int .i64 l.sh.jo] 29)).heap[w.heap.size]? = some (.cells #[.int .i64 l.bo, .int .i64 l.jr, .int .i64 l.jl, .int .i64 l.le, .int .i64 l.ll, .int .i64 l.bi, .int .i64 l.bl, .int .i64 l.ta, .int .i64 l.tl, .int .i64 l.dt, .int .i64 l.dl, .int .i64 l.to, .int .i64 l.sh.cl, .int .i64 l.sh.wi, .int .i64 l.sh.pl, .int .i64 l.sh.ca, .int .i64 l.sh.ino, .int .i64 l.sh.qu, .int .i64 l.sh.da, .int .i64 l.sh.jo] 29 (0, 0)) := heap_alloc_last w _
  obtain ⟨W, hW⟩ : ∃ W, w.alloc (.cells #[.int .i64 l.bo, .int .i64 l.jr, .int .i64 l.jl, .int .i64 l.le, .int .i64 l.ll, .int .i64 l.bi, .int .i64 l.bl, .int .i64 l.ta, .int .i64 l.tl, .int .i64 l.dt, .int .i64 l.dl, .int .i64 l.to, .int .i64 l.sh.cl, .int .i64 l.sh.wi, .int .i64 l.sh.pl, .int .i64 l.sh.ca, .int .i64 l.sh.ino, .int .i64 l.sh.qu, .int .i64 l.sh.da, .int .i64 l.sh.jo] 29) = W := ⟨_, rfl⟩
  rw [hW] at hn hB1 hL
  have s0 : W.cell? ⟨w.heap.size, 12, none⟩ = some (.int .i64 l.sh.cl) := by simp [World.cell?, hL]
  have s1 : W.cell? ⟨w.heap.size, 13, none⟩ = some (.int .i64 l.sh.wi) := by simp [World.cell?, hL]
  have s2 : W.cell? ⟨w.heap.size, 14, none⟩ = some (.int .i64 l.sh.pl) := by simp [World.cell?, hL]
  have s3 : W.cell? ⟨w.heap.size, 15, none⟩ = some (.int .i64 l.sh.ca) := by simp [World.cell?, hL]
  have s4 : W.cell? ⟨w.heap.size, 16, none⟩ = some (.int .i64 l.sh.ino) := by simp [World.cell?, hL]
  have s5 : W.cell? ⟨w.heap.size, 17, none⟩ = some (.int .i64 l.sh.qu) := by simp [World.cell?, hL]
  have s6 : W.cell? ⟨w.heap.size, 18, none⟩ = some (.int .i64 l.sh.da) := by simp [World.cell?, hL]
  have s7 : W.cell? ⟨w.heap.size, 19, none⟩ = some (.int .i64 l.sh.jo) := by simp [World.cell?, hL]
  go_enter Tryz.func100, Tryz.ntmps100
  go_wp2_with fail
  try rw [hW]
  refine (plan_any l.sh W hB1).mono ?_
  rintro e w2 ⟨rfl, b2⟩
  have hL2 := (b2.block _ (lt_of_block hL)).trans hL
  have hn2 := newBox w2 (.cells #[.int .i64 (planL l.sh).bo, .int .i64 (planL l.sh).jr, .int .i64 (planL l.sh).jl, .int .i64 (planL l.sh).le, .int .i64 (planL l.sh).ll, .int .i64 (planL l.sh).bi, .int .i64 (planL l.sh).bl, .int .i64 (planL l.sh).ta, .int .i64 (planL l.sh).tl, .int .i64 (planL l.sh).dt, .int .i64 (planL l.sh).dl, .int .i64 (planL l.sh).to, .int .i64 (planL l.sh).sh.cl, .int .i64 (planL l.sh).sh.wi, .int .i64 (planL l.sh).sh.pl, .int .i64 (planL l.sh).sh.ca, .int .i64 (planL l.sh).sh.ino, .int .i64 (planL l.sh).sh.qu, .int .i64 (planL l.sh).sh.da, .int .i64 (planL l.sh).sh.jo] 29)
  have hL3 := (hn2.block _ (lt_of_block hL2)).trans hL2
  have hld := LyLoad.row hL3 rfl
  have hq : Below w.heap.size w (w2.alloc (.cells #[.int .i64 (planL l.sh).bo, .int .i64 (planL l.sh).jr, .int .i64 (planL l.sh).jl, .int .i64 (planL l.sh).le, .int .i64 (planL l.sh).ll, .int .i64 (planL l.sh).bi, .int .i64 (planL l.sh).bl, .int .i64 (planL l.sh).ta, .int .i64 (planL l.sh).tl, .int .i64 (planL l.sh).dt, .int .i64 (planL l.sh).dl, .int .i64 (planL l.sh).to, .int .i64 (planL l.sh).sh.cl, .int .i64 (planL l.sh).sh.wi, .int .i64 (planL l.sh).sh.pl, .int .i64 (planL l.sh).sh.ca, .int .i64 (planL l.sh).sh.ino, .int .i64 (planL l.sh).sh.qu, .int .i64 (planL l.sh).sh.da, .int .i64 (planL l.sh).sh.jo] 29)) := (hn.trans (b2.mono hn.size)).trans (hn2.mono (Nat.le_trans hn.size b2.size))
  clear hW hn hB1 hL s0 s1 s2 s3 s4 s5 s6 s7 b2 hL2 hn2 hL3 hB
  by_cases hp : planE l.sh = 0
  case neg =>
    have hx : (planE l.sh == 0) = false := by simpa using hp
    have HE : Hid (lyOk l = false) := by show _ = _; unfold lyOk; rw [decide_eq_false hp]; rfl
    clear hp hld
    go_wp2_with fail
    go_ret
    exact ⟨by rw [HE.out]; rfl, hq⟩
  have hx : (planE l.sh == 0) = true := by simpa using hp
  by_cases hl : planL l.sh = l
  case neg =>
    have hd : lyEq (planL l.sh) l = false := decide_eq_false hl
    have hd2 : lyEq ⟨(planL l.sh).bo, (planL l.sh).jr, (planL l.sh).jl, (planL l.sh).le, (planL l.sh).ll, (planL l.sh).bi, (planL l.sh).bl, (planL l.sh).ta, (planL l.sh).tl, (planL l.sh).dt, (planL l.sh).dl, (planL l.sh).to, ⟨(planL l.sh).sh.cl, (planL l.sh).sh.wi, (planL l.sh).sh.pl, (planL l.sh).sh.ca, (planL l.sh).sh.ino, (planL l.sh).sh.qu, (planL l.sh).sh.da, (planL l.sh).sh.jo⟩⟩ ⟨l.bo, l.jr, l.jl, l.le, l.ll, l.bi, l.bl, l.ta, l.tl, l.dt, l.dl, l.to, ⟨l.sh.cl, l.sh.wi, l.sh.pl, l.sh.ca, l.sh.ino, l.sh.qu, l.sh.da, l.sh.jo⟩⟩ = false := hd
    have HE : Hid (lyOk l = false) := by show _ = _; unfold lyOk; rw [hd]; simp
    clear hp hl hd
    go_wp2_with fail
    go_ret
    exact ⟨by rw [HE.out]; rfl, hq⟩
  have hd : lyEq (planL l.sh) l = true := decide_eq_true hl
  have hd2 : lyEq ⟨(planL l.sh).bo, (planL l.sh).jr, (planL l.sh).jl, (planL l.sh).le, (planL l.sh).ll, (planL l.sh).bi, (planL l.sh).bl, (planL l.sh).ta, (planL l.sh).tl, (planL l.sh).dt, (planL l.sh).dl, (planL l.sh).to, ⟨(planL l.sh).sh.cl, (planL l.sh).sh.wi, (planL l.sh).sh.pl, (planL l.sh).sh.ca, (planL l.sh).sh.ino, (planL l.sh).sh.qu, (planL l.sh).sh.da, (planL l.sh).sh.jo⟩⟩ ⟨l.bo, l.jr, l.jl, l.le, l.ll, l.bi, l.bl, l.ta, l.tl, l.dt, l.dl, l.to, ⟨l.sh.cl, l.sh.wi, l.sh.pl, l.sh.ca, l.sh.ino, l.sh.qu, l.sh.da, l.sh.jo⟩⟩ = true := hd
  have HE : Hid (lyOk l = true) := by show _ = _; unfold lyOk; rw [hd, decide_eq_true hp]; rfl
  clear hp hl hd
  go_wp2_with fail
  go_ret
  exact ⟨by rw [HE.out]; rfl, hq⟩
end Go.Proofs.YtfmcbjlagdanjaaGreatDoor

/- Plain words on worlds and blocks, which the contracts of the device use. -/
namespace Go.Proofs.YtfmcbjlagdanjaaGreatDoor
open Go.RowKit
set_option maxRecDepth 100000

/-- The world has grown; of the old blocks only those of F may have turned. -/
structure Turns (F : Nat → Prop) (w w' : World) : Prop where
  os : w'.os = w.os
  tape : w'.tape = w.tape
  output : w'.output = w.output
  size : w.heap.size ≤ w'.heap.size
  block : ∀ i, i < w.heap.size → ¬ F i → w'.heap[i]? = w.heap[i]?

theorem Turns.refl (F : Nat → Prop) (w : World) : Turns F w w := ⟨rfl, rfl, rfl, Nat.le_refl _, fun _ _ _ => rfl⟩
theorem Turns.trans {F G : Nat → Prop} {a b c : World} (h : Turns F a b) (k : Turns G b c) (hG : ∀ i, i < a.heap.size → G i → F i) : Turns F a c :=
  ⟨k.os.trans h.os, k.tape.trans h.tape, k.output.trans h.output, Nat.le_trans h.size k.size, fun i hi hF => (k.block i (Nat.lt_of_lt_of_le hi h.size) (fun g => hF (hG i hi g))).trans (h.block i hi hF)⟩
theorem Turns.mono {F G : Nat → Prop} {a b : World} (h : Turns F a b) (hF : ∀ i, i < a.heap.size → F i → G i) : Turns G a b :=
  ⟨h.os, h.tape, h.output, h.size, fun i hi hG => h.block i hi (fun f => hG (hF i hi f))⟩
theorem Below.turns {w w' : World} (h : Below w.heap.size w w') (F : Nat → Prop) : Turns F w w' := ⟨h.os, h.tape, h.output, h.size, fun i hi _ => h.block i hi⟩
theorem Turns.below {F : Nat → Prop} {B : Nat} {w w' : World} (h : Turns F w w') (hF : ∀ i, F i → B ≤ i) (hB : B ≤ w.heap.size) : Below B w w' :=
  ⟨h.os, h.tape, h.output, h.size, fun i hi => h.block i (Nat.lt_of_lt_of_le hi hB) (fun f => by have := hF i f; omega)⟩
theorem Turns.alloc (F : Nat → Prop) (w : World) (o : Obj) : Turns F w (w.alloc o) := Below.turns ((Below.refl _ w).alloc (Nat.le_refl _) o) F
theorem Turns.drewN (F : Nat → Prop) (w : World) (m : Nat) : Turns F w (w.drewN m) := ⟨rfl, rfl, rfl, Nat.le_refl _, fun _ _ _ => rfl⟩
theorem Turns.setCell {F : Nat → Prop} (w : World) {b : Nat} (o : Nat) (v : Value) (hF : F b) : Turns F w (w.setCell ⟨b, o, none⟩ v) :=
  ⟨rfl, rfl, rfl, by simp [World.setCell], fun i _ hi => Below.heap_setCell _ _ _ _ (fun e => hi (by subst e; exact hF))⟩
theorem Turns.cell (w : World) (b o : Nat) (v : Value) : Turns (fun i => i = b) w (w.setCell ⟨b, o, none⟩ v) := Turns.setCell w o v rfl
theorem Turns.grown {F : Nat → Prop} {w w' : World} {row : Option Nat} (h : w.grownBy w' row) (hF : ∀ b, row = some b → F b) : Turns F w w' :=
  ⟨h.os, h.tape, h.output, h.size, fun i hi hn => h.block i hi (fun e => hn (hF i e.symm))⟩

/-- A row of bytes that fills its block. -/
abbrev bl (bs : List Int) : Obj := .cells (bs.map (Value.int .u8)).toArray 5 (0, 0)
theorem heap_lt {w : World} {g : Nat} {o : Obj} (h : w.heap[g]? = some o) : g < w.heap.size := (Array.getElem?_eq_some_iff.1 h).1
theorem Lies.full {w : World} {g n : Nat} {bs : List Int} (h : w.heap[g]? = some (bl bs)) (hn : bs.length = n) : Lies w (some ⟨g, 0, none⟩) n n bs := by
  refine ⟨hn, Nat.le_refl _, (fun h => by cases h), fun ad had t u hu => ?_⟩
  obtain rfl := Option.some.inj had
  rw [Addr.add_lit, Nat.zero_add]
  simp only [World.cell?, h]
  simpa using hu
theorem Lies.piece {w : World} {g o n c : Nat} {bs : List Int} (h : w.heap[g]? = some (bl bs)) (hn : o + n ≤ bs.length) (hc : n ≤ c) : Lies w (some ⟨g, o, none⟩) n c ((bs.drop o).take n) := by
  refine ⟨by simp; omega, hc, (fun h => by cases h), fun ad had t u hu => ?_⟩
  obtain rfl := Option.some.inj had
  rw [Addr.add_lit]
  simp only [World.cell?, h]
  rw [List.map_take, List.map_drop, List.getElem?_take] at hu
  by_cases ht : t < n
  · rw [if_pos ht, List.getElem?_drop] at hu
    simpa using hu
  · rw [if_neg ht] at hu; cases hu
/-- What is read of blocks that did not turn is as before. -/
theorem Lies.turns {F : Nat → Prop} {w w' : World} {ao : Option Addr} {n c : Nat} {bs : List Int} (h : Lies w ao n c bs) (ht : Turns F w w') (hF : ∀ ad, ao = some ad → ¬ F ad.block) : Lies w' ao n c bs :=
  ⟨h.hlen, h.hle, h.hnone, fun ad had t u hu => by
    have hc := h.hcells ad had t u hu
    have hlt := World.block_lt_of_cell? w _ hc
    rw [add_block] at hlt
    have e := World.cell?_of_block (w := w) (w' := w') (a := ad.add t) (by rw [add_block]; exact ht.block _ hlt (hF ad had))
    exact e.trans hc⟩
theorem own_turns {F : Nat → Prop} {w w' : World} {base e size n : Nat} {v : Value} {xs : List Value} (h : w.ownsRow base e size v n xs) (ht : Turns F w w') (hF : ∀ b, v.ownBlock = some b → ¬ F b) : w'.ownsRow base e size v n xs := by
  refine ⟨h.1, ?_⟩
  rcases h.2 with h2 | ⟨g, cap, cur, hv, hg, hb, r⟩
  · exact Or.inl h2
  · subst hv
    exact Or.inr ⟨g, cap, cur, rfl, hg, (ht.block g (heap_lt hb) (hF g rfl)).trans hb, r⟩
theorem map_turns {H : Type} {F : Nat → Prop} {w w' : World} {P : Program} {k : TypeId} {R : Value → Option (DataW H × List MemPlace)} {b n : Nat} {D : DataW H} (h : w.ownsMap P k R b n D) (ht : Turns F w w') (hF : ¬ F b) : w'.ownsMap P k R b n D := by
  have hlt := h.lt
  obtain ⟨es, clock, hb, r⟩ := h
  exact ⟨es, clock, (ht.block b hlt hF).trans hb, r⟩
end Go.Proofs.YtfmcbjlagdanjaaGreatDoor

/- What a device holds, in plain mathematics. -/
namespace Go.Proofs.YtfmcbjlagdanjaaGreatDoor
open Go.RowKit
set_option maxRecDepth 100000

/-- What a device holds: the lasting bytes; what pends; the fuse; whether the power is off. -/
structure DevS where
  last : List Int
  pend : List (Nat × List Int)
  fuse : Nat
  off : Bool
/-- A write is laid over the lasting bytes. -/
def layB (l : List Int) (p : Nat × List Int) : List Int := splice l (512 * p.1) p.2
def layAll (l : List Int) (ps : List (Nat × List Int)) : List Int := ps.foldl layB l
/-- The last write that pends for a block. -/
def newest (ps : List (Nat × List Int)) (b : Nat) : Option (List Int) := (ps.reverse.find? (fun p => p.1 == b)).map (·.2)
/-- What Read tells. -/
def rdB (S : DevS) (b : Nat) : List Int := (newest S.pend b).getD ((S.last.drop (512 * b)).take 512)
/-- A Write or a Flush is counted. -/
def burnt (S : DevS) : DevS := if S.fuse = 0 then S else { S with fuse := S.fuse - 1, off := S.off || decide (S.fuse = 1) }
def wrote (S : DevS) (b : Nat) (d : List Int) : DevS := { S with pend := S.pend ++ [(b, d)] }
def flushed (S : DevS) : DevS := { S with last := layAll S.last S.pend, pend := [] }
/-- The survivors. -/
def kept : List (Nat × List Int) → List Bool → List (Nat × List Int)
  | p :: ps, k :: ks => if k then p :: kept ps ks else kept ps ks
  | _, _ => []
def crashed (S : DevS) (ks : List Bool) : DevS := { last := layAll S.last (kept S.pend ks), pend := [], fuse := 0, off := false }
/-- A new device. -/
def fresh (bs : List Int) : DevS := { last := bs, pend := [], fuse := 0, off := false }

/-- A device that can be. -/
structure Good (S : DevS) (k : Nat) : Prop where
  len : S.last.length = 512 * k
  pos : 1 ≤ k
  top : k ≤ 4096
  by_ : ∀ x ∈ S.last, 0 ≤ x ∧ x ≤ 255
  pend : ∀ p ∈ S.pend, p.1 < k ∧ p.2.length = 512 ∧ ∀ x ∈ p.2, 0 ≤ x ∧ x ≤ 255
  fuse : S.fuse ≤ 9223372036854775807

theorem lay_len {l : List Int} {p : Nat × List Int} {k : Nat} (hl : l.length = 512 * k) (hp : p.1 < k) (hd : p.2.length = 512) : (layB l p).length = 512 * k := by
  unfold layB
  rw [length_splice _ _ _ (by omega), hl]
theorem splice_mem {l d : List Int} {o : Nat} {x : Int} (h : x ∈ splice l o d) : x ∈ l ∨ x ∈ d := by
  unfold splice at h
  simp only [List.mem_append] at h
  rcases h with h | h | h
  · exact Or.inl (List.mem_of_mem_take h)
  · exact Or.inr h
  · exact Or.inl (List.mem_of_mem_drop h)
theorem layAll_good {k : Nat} : ∀ (ps : List (Nat × List Int)) (l : List Int), l.length = 512 * k → (∀ x ∈ l, 0 ≤ x ∧ x ≤ 255) → (∀ p ∈ ps, p.1 < k ∧ p.2.length = 512 ∧ ∀ x ∈ p.2, 0 ≤ x ∧ x ≤ 255) → (layAll l ps).length = 512 * k ∧ ∀ x ∈ layAll l ps, 0 ≤ x ∧ x ≤ 255
  | [], l, h1, h2, _ => ⟨h1, h2⟩
  | p :: ps, l, h1, h2, h3 => by
    have hp := h3 p (by simp)
    refine layAll_good ps (layB l p) (lay_len h1 hp.1 hp.2.1) (fun x hx => ?_) (fun q hq => h3 q (by simp [hq]))
    rcases splice_mem hx with h | h
    · exact h2 x h
    · exact hp.2.2 x h
theorem kept_mem : ∀ {ps : List (Nat × List Int)} {ks : List Bool} {p : Nat × List Int}, p ∈ kept ps ks → p ∈ ps
  | [], _, p, h => by cases h
  | q :: ps, [], p, h => by cases h
  | q :: ps, k :: ks, p, h => by
    unfold kept at h
    split at h
    · rcases List.mem_cons.1 h with rfl | h
      · simp
      · exact List.mem_cons_of_mem _ (kept_mem h)
    · exact List.mem_cons_of_mem _ (kept_mem h)
theorem Good.fresh {bs : List Int} {k : Nat} (hl : bs.length = 512 * k) (h1 : 1 ≤ k) (h2 : k ≤ 4096) (hb : ∀ x ∈ bs, 0 ≤ x ∧ x ≤ 255) : Good (fresh bs) k :=
  ⟨hl, h1, h2, hb, (fun p hp => by cases hp), Nat.zero_le _⟩
theorem Good.burnt {S : DevS} {k : Nat} (h : Good S k) : Good (burnt S) k := by
  unfold Go.Proofs.YtfmcbjlagdanjaaGreatDoor.burnt
  split
  · exact h
  · exact ⟨h.len, h.pos, h.top, h.by_, h.pend, by have := h.fuse; simp; omega⟩
theorem Good.wrote {S : DevS} {k : Nat} (h : Good S k) {b : Nat} {d : List Int} (hb : b < k) (hd : d.length = 512) (hy : ∀ x ∈ d, 0 ≤ x ∧ x ≤ 255) : Good (wrote S b d) k :=
  ⟨h.len, h.pos, h.top, h.by_, fun p hp => by
    rcases List.mem_append.1 hp with hp | hp
    · exact h.pend p hp
    · obtain rfl := List.mem_singleton.1 hp; exact ⟨hb, hd, hy⟩, h.fuse⟩
theorem Good.flushed {S : DevS} {k : Nat} (h : Good S k) : Good (flushed S) k := by
  obtain ⟨a, b⟩ := layAll_good S.pend S.last h.len h.by_ h.pend
  exact ⟨a, h.pos, h.top, b, (fun p hp => by cases hp), h.fuse⟩
theorem Good.crashed {S : DevS} {k : Nat} (h : Good S k) (ks : List Bool) : Good (crashed S ks) k := by
  obtain ⟨a, b⟩ := layAll_good (kept S.pend ks) S.last h.len h.by_ (fun p hp => h.pend p (kept_mem hp))
  exact ⟨a, h.pos, h.top, b, (fun p hp => by cases hp), Nat.zero_le _⟩
theorem newest_snoc (ps : List (Nat × List Int)) (b : Nat) (d : List Int) (x : Nat) : newest (ps ++ [(b, d)]) x = if b = x then some d else newest ps x := by
  unfold newest
  rw [List.reverse_append]
  by_cases h : b = x
  · simp [h]
  · simp [h]
end Go.Proofs.YtfmcbjlagdanjaaGreatDoor

/- A device in memory. -/
namespace Go.Proofs.YtfmcbjlagdanjaaGreatDoor
open Go.RowKit
set_option maxRecDepth 100000

/-- The slice of a block's bytes. -/
abbrev hv (g : Nat) : Value := .slice (some ⟨g, 0, none⟩) 512 512
/-- The cells of the writes that pend. -/
def pc : List (Nat × List Int) → List Nat → List Value
  | p :: ps, g :: gs => .int .i64 p.1 :: hv g :: pc ps gs
  | _, _ => []
theorem pc_len : ∀ (ps : List (Nat × List Int)) (gs : List Nat), gs.length = ps.length → (pc ps gs).length = ps.length * 2
  | [], _, _ => by simp [pc]
  | p :: ps, [], h => by cases h
  | p :: ps, g :: gs, h => by
    have := pc_len ps gs (by simpa using h)
    simp [pc, this]; omega
theorem pc_snoc : ∀ (ps : List (Nat × List Int)) (gs : List Nat) (b : Nat) (d : List Int) (g : Nat), gs.length = ps.length → pc (ps ++ [(b, d)]) (gs ++ [g]) = pc ps gs ++ [.int .i64 b, hv g]
  | [], [], _, _, _, _ => rfl
  | [], g :: gs, _, _, _, h => by cases h
  | p :: ps, [], _, _, _, h => by cases h
  | p :: ps, g :: gs, b, d, g', h => by
    have := pc_snoc ps gs b d g' (by simpa using h)
    simp [pc, this]
theorem pc_at : ∀ (ps : List (Nat × List Int)) (gs : List Nat) (i : Nat) (p : Nat × List Int) (g : Nat), ps[i]? = some p → gs[i]? = some g → (pc ps gs)[i * 2]? = some (.int .i64 p.1) ∧ (pc ps gs)[i * 2 + 1]? = some (hv g)
  | [], _, _, _, _, h, _ => by simp at h
  | p :: ps, [], _, _, _, _, h => by simp at h
  | p :: ps, g :: gs, 0, _, _, h1, h2 => by
    simp at h1 h2; subst h1; subst h2
    simp [pc]
  | p :: ps, g :: gs, i + 1, p', g', h1, h2 => by
    have := pc_at ps gs i p' g' (by simpa using h1) (by simpa using h2)
    rw [show (i + 1) * 2 = i * 2 + 1 + 1 by omega]
    simpa [pc] using this
/-- The block of the last write that pends for a block. -/
def newestG (ps : List (Nat × List Int)) (gs : List Nat) (b : Nat) : Option Nat := ((ps.zip gs).reverse.find? (fun t => t.1.1 == b)).map (·.2)
theorem newestG_snoc (ps : List (Nat × List Int)) (gs : List Nat) (b : Nat) (d : List Int) (g x : Nat) (h : gs.length = ps.length) : newestG (ps ++ [(b, d)]) (gs ++ [g]) x = if b = x then some g else newestG ps gs x := by
  unfold newestG
  rw [List.zip_append h.symm, List.reverse_append]
  by_cases e : b = x
  · simp [e]
  · simp [e]
/-- A map's element is held as it is. -/
abbrev RV (v : Value) : Option (DataW Value × List MemPlace) := some (.held v, [])

/-- A device in memory, with all its parts. -/
structure DevX (w : World) (db : Nat) (st : Int) (S : DevS) (k N gl bm : Nat) (q : Int) (pv : Value) (gs : List Nat) (Dm : DataW Value) : Prop where
  good : Good S k
  blk : w.heap[db]? = some (.cells #[.int .i32 st, .int .u32 q, .slice (some ⟨gl, 0, none⟩) (512 * k) (512 * k), pv, .map (some bm), .int .i64 S.fuse, .bool S.off] 139 (0, 0))
  lst : w.heap[gl]? = some (bl S.last)
  row : w.ownsRow 0 141 2 pv S.pend.length (pc S.pend gs)
  gsl : gs.length = S.pend.length
  pn : S.pend.length ≤ N
  dat : ∀ (i : Nat) p g, S.pend[i]? = some p → gs[i]? = some g → w.heap[g]? = some (bl p.2)
  map : w.ownsMap Tryz.prog 3 RV bm N Dm
  at_ : ∀ b : Nat, b < 4096 → Maps.has Dm (.int .i64 b) = (newestG S.pend gs b).isSome ∧ ∀ zd, Dm.atKey (.int .i64 b) zd = ((newestG S.pend gs b).map (fun g => DataW.held (hv g))).getD zd
  a1 : db ≠ gl
  a2 : db ∉ gs
  a3 : gl ∉ gs
  a4 : pv.ownBlock ≠ some db
  a5 : pv.ownBlock ≠ some gl
  a6 : ∀ g ∈ gs, pv.ownBlock ≠ some g
/-- All blocks of a device. -/
structure Foot (F : Nat → Prop) (db gl bm : Nat) (pv : Value) (gs : List Nat) : Prop where
  f1 : F db
  f2 : F gl
  f3 : F bm
  f4 : ∀ b, pv.ownBlock = some b → F b
  f5 : ∀ g ∈ gs, F g
/-- A device in memory: its lock's state, what it holds, how many blocks; at most N entries of its map; its blocks lie in F. -/
def Dev (w : World) (db : Nat) (st : Int) (S : DevS) (k N : Nat) (F : Nat → Prop) : Prop := ∃ gl bm q pv gs Dm, DevX w db st S k N gl bm q pv gs Dm ∧ Foot F db gl bm pv gs ∧ ∀ i, F i → i < w.heap.size
/-- The old blocks, and all that are new. -/
def grow (F : Nat → Prop) (w w' : World) : Nat → Prop := fun i => F i ∨ (w.heap.size ≤ i ∧ i < w'.heap.size)
theorem grow_old {F : Nat → Prop} {w w' : World} : ∀ i, i < w.heap.size → grow F w w' i → F i := fun i hi h => h.elim id (fun h => by omega)

theorem dat_turns {F : Nat → Prop} {w w' : World} {ps : List (Nat × List Int)} {gs : List Nat} (h : ∀ (i : Nat) p g, ps[i]? = some p → gs[i]? = some g → w.heap[g]? = some (bl p.2)) (ht : Turns F w w') (hF : ∀ g ∈ gs, ¬ F g) :
    ∀ (i : Nat) p g, ps[i]? = some p → gs[i]? = some g → w'.heap[g]? = some (bl p.2) := fun i p g h1 h2 => by
  have hb := h i p g h1 h2
  exact (ht.block g (heap_lt hb) (hF g (List.mem_of_getElem? h2))).trans hb
theorem DevX.turns {G : Nat → Prop} {w w' : World} {db : Nat} {st : Int} {S : DevS} {k N gl bm : Nat} {q : Int} {pv : Value} {gs : List Nat} {Dm : DataW Value} (h : DevX w db st S k N gl bm q pv gs Dm) (ht : Turns G w w')
    (h1 : ¬ G db) (h2 : ¬ G gl) (h3 : ¬ G bm) (h4 : ∀ b, pv.ownBlock = some b → ¬ G b) (h5 : ∀ g ∈ gs, ¬ G g) : DevX w' db st S k N gl bm q pv gs Dm :=
  { h with
    blk := (ht.block db (heap_lt h.blk) h1).trans h.blk
    lst := (ht.block gl (heap_lt h.lst) h2).trans h.lst
    row := own_turns h.row ht h4
    dat := dat_turns h.dat ht h5
    map := map_turns h.map ht h3 }
theorem Dev.turns {F G : Nat → Prop} {w w' : World} {db : Nat} {st : Int} {S : DevS} {k N : Nat} (h : Dev w db st S k N F) (ht : Turns G w w') (hG : ∀ i, F i → ¬ G i) : Dev w' db st S k N F := by
  obtain ⟨gl, bm, q, pv, gs, Dm, h, f, hl⟩ := h
  exact ⟨gl, bm, q, pv, gs, Dm, h.turns ht (hG _ f.f1) (hG _ f.f2) (hG _ f.f3) (fun b hb => hG _ (f.f4 b hb)) (fun g hg => hG _ (f.f5 g hg)), f, fun i hi => Nat.lt_of_lt_of_le (hl i hi) ht.size⟩
theorem Dev.below {F : Nat → Prop} {w w' : World} {db : Nat} {st : Int} {S : DevS} {k N : Nat} (h : Dev w db st S k N F) (hb : Below w.heap.size w w') : Dev w' db st S k N F :=
  h.turns (Below.turns hb (fun _ => False)) (fun _ _ => id)
theorem Dev.foot {F G : Nat → Prop} {w : World} {db : Nat} {st : Int} {S : DevS} {k N : Nat} (h : Dev w db st S k N F) (hG : ∀ i, F i → G i) (hl : ∀ i, G i → i < w.heap.size) : Dev w db st S k N G := by
  obtain ⟨gl, bm, q, pv, gs, Dm, h, f, _⟩ := h
  exact ⟨gl, bm, q, pv, gs, Dm, h, ⟨hG _ f.f1, hG _ f.f2, hG _ f.f3, fun b hb => hG _ (f.f4 b hb), fun g hg => hG _ (f.f5 g hg)⟩, hl⟩
theorem Dev.lt {F : Nat → Prop} {w : World} {db : Nat} {st : Int} {S : DevS} {k N : Nat} (h : Dev w db st S k N F) : ∀ i, F i → i < w.heap.size := by
  obtain ⟨gl, bm, q, pv, gs, Dm, h, f, hl⟩ := h
  exact hl
theorem Dev.good {F : Nat → Prop} {w : World} {db : Nat} {st : Int} {S : DevS} {k N : Nat} (h : Dev w db st S k N F) : Good S k := by
  obtain ⟨gl, bm, q, pv, gs, Dm, h, f, hl⟩ := h
  exact h.good
theorem DevX.mdb {w : World} {db : Nat} {st : Int} {S : DevS} {k N gl bm : Nat} {q : Int} {pv : Value} {gs : List Nat} {Dm : DataW Value} (h : DevX w db st S k N gl bm q pv gs Dm) : bm ≠ db := fun e => by
  obtain ⟨es, cl, hb, _⟩ := h.map
  rw [e, h.blk] at hb; cases hb
theorem DevX.mgl {w : World} {db : Nat} {st : Int} {S : DevS} {k N gl bm : Nat} {q : Int} {pv : Value} {gs : List Nat} {Dm : DataW Value} (h : DevX w db st S k N gl bm q pv gs Dm) : bm ≠ gl := fun e => by
  obtain ⟨es, cl, hb, _⟩ := h.map
  rw [e, h.lst] at hb; cases hb
theorem DevX.mgs {w : World} {db : Nat} {st : Int} {S : DevS} {k N gl bm : Nat} {q : Int} {pv : Value} {gs : List Nat} {Dm : DataW Value} (h : DevX w db st S k N gl bm q pv gs Dm) : bm ∉ gs := fun e => by
  obtain ⟨i, hi⟩ := List.mem_iff_getElem?.1 e
  have hlt : i < S.pend.length := by rw [← h.gsl]; exact (List.getElem?_eq_some_iff.1 hi).1
  obtain ⟨es, cl, hb, _⟩ := h.map
  rw [h.dat i _ _ (List.getElem?_eq_getElem hlt) hi] at hb; cases hb
theorem DevX.mpv {w : World} {db : Nat} {st : Int} {S : DevS} {k N gl bm : Nat} {q : Int} {pv : Value} {gs : List Nat} {Dm : DataW Value} (h : DevX w db st S k N gl bm q pv gs Dm) : pv.ownBlock ≠ some bm := fun e => by
  obtain ⟨es, cl, hb, _⟩ := h.map
  rcases h.row.2 with ⟨hv, _⟩ | ⟨g, cap, cur, hv, _, hg, _⟩
  · subst hv; cases e
  · subst hv
    obtain rfl : g = bm := by simpa [Value.ownBlock] using e
    rw [hg] at hb; cases hb

/-- One cell of the device's own block is written. -/
theorem DevX.db {w : World} {db : Nat} {st st' : Int} {S S' : DevS} {k N gl bm : Nat} {q : Int} {pv : Value} {gs : List Nat} {Dm : DataW Value} (h : DevX w db st S k N gl bm q pv gs Dm) (j : Nat) (v : Value)
    (hS : S'.last = S.last ∧ S'.pend = S.pend ∧ S'.fuse ≤ 9223372036854775807)
    (hb : (#[.int .i32 st, .int .u32 q, .slice (some ⟨gl, 0, none⟩) (512 * k) (512 * k), pv, .map (some bm), .int .i64 S.fuse, .bool S.off] : Array Value).setIfInBounds j v = #[.int .i32 st', .int .u32 q, .slice (some ⟨gl, 0, none⟩) (512 * k) (512 * k), pv, .map (some bm), .int .i64 S'.fuse, .bool S'.off]) :
    DevX (w.setCell ⟨db, j, none⟩ v) db st' S' k N gl bm q pv gs Dm := by
  have ht : Turns (fun i => i = db) w (w.setCell ⟨db, j, none⟩ v) := Turns.setCell w j v rfl
  have hx := h.turns (G := fun i => i = db) (w' := w.setCell ⟨db, j, none⟩ v)
  obtain ⟨e1, e2, e3⟩ := hS
  refine ⟨⟨by rw [e1]; exact h.good.len, h.good.pos, h.good.top, by rw [e1]; exact h.good.by_, by rw [e2]; exact h.good.pend, e3⟩, ?_, ?_, ?_, by rw [e2]; exact h.gsl, by rw [e2]; exact h.pn, ?_, ?_, by rw [e2]; exact h.at_, h.a1, h.a2, h.a3, h.a4, h.a5, h.a6⟩
  · rw [heap_setCell_same _ _ _ _ _ _ h.blk, hb]
  · rw [e1]; exact (ht.block gl (heap_lt h.lst) (fun e => h.a1 e.symm)).trans h.lst
  · rw [e2]; exact own_turns h.row ht (fun b hb e => h.a4 (by rw [hb, e]))
  · rw [e2]; exact dat_turns h.dat ht (fun g hg e => h.a2 (by rw [← e]; exact hg))
  · exact map_turns h.map ht h.mdb
/-- The cells of the device's own block. -/
theorem DevX.cells {w : World} {db : Nat} {st : Int} {S : DevS} {k N gl bm : Nat} {q : Int} {pv : Value} {gs : List Nat} {Dm : DataW Value} (h : DevX w db st S k N gl bm q pv gs Dm) :
    w.cell? ⟨db, 0, none⟩ = some (.int .i32 st) ∧ w.cell? ⟨db, 2, none⟩ = some (.slice (some ⟨gl, 0, none⟩) (512 * k) (512 * k)) ∧ w.cell? ⟨db, 3, none⟩ = some pv ∧ w.cell? ⟨db, 4, none⟩ = some (.map (some bm)) ∧ w.cell? ⟨db, 5, none⟩ = some (.int .i64 S.fuse) ∧ w.cell? ⟨db, 6, none⟩ = some (.bool S.off) ∧ ∀ j, w.frozen? ⟨db, j, none⟩ = false := by
  refine ⟨?_, ?_, ?_, ?_, ?_, ?_, fun j => ?_⟩ <;> simp [World.cell?, World.frozen?, h.blk]
end Go.Proofs.YtfmcbjlagdanjaaGreatDoor

/- The numbers under which this dump holds sync.Mutex's functions and types, and that it holds them. -/
namespace Go.Proofs.YtfmcbjlagdanjaaGreatDoor
abbrev muLink : Go.Conc.Locks.MuLink := { lock := 69, unlock := 70, ilock := 118, iunlock := 119, lockSlow := 158, unlockSlow := 161, disable := 154, enable := 156, acquire := 157, relMerge := 159, cas32 := 155, add32 := 160, tMutex := 136, tIMutex := 134, tPMutex := 187, tPIMutex := 217, tPI32 := 219, tUP := 221, tNoCopy := 131, tU32 := 132 }
theorem muLib : Go.Conc.Locks.MuLib Tryz.prog muLink :=
  ⟨Tryz.func69, Tryz.func70, Tryz.func118, Tryz.func119, Tryz.func154, Tryz.func156, Tryz.func157, Tryz.func159, Tryz.func155, Tryz.func160, Tryz.underlying134, Tryz.runUnderlying134, Tryz.sizeOf134, Tryz.isAgg134, Tryz.zeroValue134, Tryz.underlying136, Tryz.runUnderlying136, Tryz.sizeOf136, Tryz.isAgg136, Tryz.zeroValue136, Tryz.underlying187, Tryz.runUnderlying187, Tryz.sizeOf187, Tryz.isAgg187, Tryz.zeroValue187, Tryz.underlying217, Tryz.runUnderlying217, Tryz.sizeOf217, Tryz.isAgg217, Tryz.zeroValue217, Tryz.underlying219, Tryz.runUnderlying219, Tryz.sizeOf219, Tryz.isAgg219, Tryz.zeroValue219, Tryz.underlying221, Tryz.runUnderlying221, Tryz.sizeOf221, Tryz.isAgg221, Tryz.zeroValue221, Tryz.underlying131, Tryz.runUnderlying131, Tryz.sizeOf131, Tryz.isAgg131, Tryz.zeroValue131, Tryz.underlying21, Tryz.runUnderlying21, Tryz.sizeOf21, Tryz.isAgg21, Tryz.zeroValue21, (by kernel_rfl)⟩
end Go.Proofs.YtfmcbjlagdanjaaGreatDoor

/- The device's small functions by their contracts: copied, canBe, blocks, has, block, burn; the lock. -/
namespace Go.Proofs.YtfmcbjlagdanjaaGreatDoor
open Go.RowKit
open Go.MuLone
set_option maxRecDepth 100000

theorem made_row (w : World) (n : Nat) : (w.alloc (.cells (madeCells #[.int .u8 0] n) 5)).heap[w.heap.size]? = some (.cells (List.replicate n (Value.int .u8 0)).toArray 5 (0, 0)) := by
  have e : madeCells #[Value.int .u8 0] n = (List.replicate n (Value.int .u8 0)).toArray := by
    rw [← toList_madeCells_one]
  rw [e]
  exact (MapKept.heap_alloc w _).1
theorem splice_whole {α : Type} (L cs : List α) (h : cs.length = L.length) : splice L 0 cs = cs := by
  simp [splice, h]

set_option maxHeartbeats 1000000 in
theorem copied_any (ao : Option Addr) (n c : Nat) (bs : List Int) (w : World) (hn : n ≤ 140737488355328) (hL : Lies w ao n c bs) :
    Calls Tryz.prog 68 #[.slice ao n c] w fun e w' => ∃ g, e = .returned (.slice (some ⟨g, 0, none⟩) n n) ∧ w.heap.size ≤ g ∧ w'.heap[g]? = some (bl bs) ∧ Below w.heap.size w w' := by
  obtain ⟨i0, hi, hz0, hz1, hz2⟩ := info_parts Tryz.info5
  have hni : (n : Int) ≤ 140737488355328 := by omega
  have hlen := hL.hlen
  have hsz : (Tryz.prog.info? 5).map (·.size) = some 1 := by rw [hi]; simp [hz1]
  have hL1 : Lies (w.alloc (.cells (madeCells #[.int .u8 0] n) 5)) ao n c bs := hL.below ((Below.refl _ w).alloc (Nat.le_refl _) _) (Nat.le_refl _)
  have hpos : 0 < (bs.map (Value.int .u8)).length → (some ⟨w.heap.size, 0, none⟩ : Option Addr) = some ⟨w.heap.size, 0, none⟩ ∧ ∃ ad, ao = some ad ∧ ∀ j v, (bs.map (Value.int .u8))[j]? = some v → (w.alloc (.cells (madeCells #[.int .u8 0] n) 5)).cell? (ad.add j) = some v := fun hp => by
    cases hao : ao with
    | none => have := (hL.hnone hao).1; simp at hp; omega
    | some ad => exact ⟨rfl, ad, rfl, hL1.hcells ad hao⟩
  have hrow := made_row w n
  have hbel : Below w.heap.size w (w.alloc (.cells (madeCells #[.int .u8 0] n) 5)) := (Below.refl _ w).alloc (Nat.le_refl _) _
  go_enter Tryz.func68, Tryz.ntmps68
  go_wp2_with (first
    | (at_make; (refine wpList_make_row _ rfl _ _ 66 rfl 5 i0 (.int .u8 0) Tryz.underlying66 hi hz0 hz1 rfl _ _ n rfl rfl (by rw [hz2]; omega) (by omega) ?_))
    | (refine wpList_copy_splice rfl _ _ 66 66 rfl 5 Tryz.underlying66 hsz _ _ _ _ _ _ rfl rfl w.heap.size 0 (List.replicate n (Value.int .u8 0)) 5 hrow (bs.map (Value.int .u8)) (by simp [hlen]) hpos (by simp [hlen]) (ints_oneCell _ _) w.heap.size w hbel (Nat.le_refl _) ?_; intro w2 HG2 hB2))
  go_ret
  refine ⟨_, rfl, Nat.le_refl _, ?_, hB2⟩
  rw [HG2.out, splice_whole _ _ (by simp [hlen])]

theorem canBe_any (n : Int) (w : World) : Calls Tryz.prog 66 #[.int .i64 n] w fun e w' => e = .returned (.bool (decide (1 ≤ n ∧ n ≤ 4096))) ∧ w' = w := by
  go_enter Tryz.func66, Tryz.ntmps66
  go_wp2
  all_goals go_ret
  all_goals refine ⟨?_, rfl⟩
  all_goals (try simp)
  all_goals (try omega)

theorem blocks_any (db : Nat) (k : Nat) (gl : Option Addr) (w : World) (hk : k ≤ 4096) (c2 : w.cell? ⟨db, 2, none⟩ = some (.slice gl (512 * k) (512 * k))) :
    Calls Tryz.prog 162 #[.pointer (some ⟨db, 0, none⟩)] w fun e w' => e = .returned (.int .i64 k) ∧ w' = w := by
  go_enter Tryz.func162, Tryz.ntmps162
  go_wp2
  go_ret
  refine ⟨?_, rfl⟩
  congr 2

theorem has_any (db : Nat) (k : Nat) (gl : Option Addr) (b : Int) (w : World) (hk : k ≤ 4096) (c2 : w.cell? ⟨db, 2, none⟩ = some (.slice gl (512 * k) (512 * k))) :
    Calls Tryz.prog 193 #[.pointer (some ⟨db, 0, none⟩), .int .i64 b] w fun e w' => e = .returned (.bool (decide (0 ≤ b ∧ b < k))) ∧ w' = w := by
  go_enter Tryz.func193, Tryz.ntmps193
  go_wp2_with (go_at_call 162; refine (blocks_any db k gl _ hk c2).mono ?_; rintro e wn ⟨rfl, hwn⟩; subst wn)
  all_goals go_ret
  all_goals refine ⟨?_, rfl⟩
  all_goals (try simp)
  all_goals (try omega)

theorem block_any (db : Nat) (k gl : Nat) (b : Nat) (w : World) (hb : b < k) (hk : k ≤ 4096) (c2 : w.cell? ⟨db, 2, none⟩ = some (.slice (some ⟨gl, 0, none⟩) (512 * k) (512 * k))) :
    Calls Tryz.prog 120 #[.pointer (some ⟨db, 0, none⟩), .int .i64 b] w fun e w' => e = .returned (.slice (some ⟨gl, 512 * b, none⟩) 512 (512 * k - 512 * b)) ∧ w' = w := by
  have h1 : (b : Int) < k := by omega
  have h2 : (k : Int) ≤ 4096 := by omega
  go_enter Tryz.func120, Tryz.ntmps120
  go_wp2
  go_ret
  refine ⟨?_, rfl⟩
  have e1 : b * 512 = 512 * b := by omega
  have e2 : (b + 1) * 512 - b * 512 = 512 := by omega
  show Ending.returned (.slice (some ⟨gl, b * 512, none⟩) ((b + 1) * 512 - b * 512) (512 * k - b * 512)) = _
  rw [e2, e1]

/-- The lock is taken. -/
theorem lock_dev {w : World} {db : Nat} {S : DevS} {k N gl bm : Nat} {q : Int} {pv : Value} {gs : List Nat} {Dm : DataW Value} (h : DevX w db 0 S k N gl bm q pv gs Dm) :
    Calls Tryz.prog 69 #[.pointer (some ⟨db, 0, none⟩)] w fun e w' => e = .returned (.tuple #[]) ∧ DevX w' db 1 S k N gl bm q pv gs Dm ∧ Turns (fun i => i = db) w w' := by
  refine (lock_free muLib ⟨db, 0, none⟩ w h.cells.1 (h.cells.2.2.2.2.2.2 0)).mono ?_
  rintro e w' ⟨rfl, rfl⟩
  exact ⟨rfl, h.db 0 _ ⟨rfl, rfl, h.good.fuse⟩ rfl, Turns.cell w db 0 _⟩
/-- The lock is let go, by a deferred call. -/
theorem unlock_dev {w : World} {db : Nat} {S : DevS} {k N gl bm : Nat} {q : Int} {pv : Value} {gs : List Nat} {Dm : DataW Value} (u : FrameMode) (h : DevX w db 1 S k N gl bm q pv gs Dm) :
    CallsD Tryz.prog 70 #[.pointer (some ⟨db, 0, none⟩)] u w fun e u' w' => u' = u ∧ e = .returned (.tuple #[]) ∧ DevX w' db 0 S k N gl bm q pv gs Dm ∧ Turns (fun i => i = db) w w' := by
  refine (unlock_deferred muLib ⟨db, 0, none⟩ u w h.cells.1 (h.cells.2.2.2.2.2.2 0)).mono ?_
  rintro e u' w' ⟨rfl, rfl, rfl⟩
  exact ⟨rfl, rfl, h.db 0 _ ⟨rfl, rfl, h.good.fuse⟩ rfl, Turns.cell w db 0 _⟩

set_option maxHeartbeats 1000000 in
theorem burn_any {w : World} {db : Nat} {st : Int} {S : DevS} {k N gl bm : Nat} {q : Int} {pv : Value} {gs : List Nat} {Dm : DataW Value} (h : DevX w db st S k N gl bm q pv gs Dm) :
    Calls Tryz.prog 194 #[.pointer (some ⟨db, 0, none⟩)] w fun e w' => e = .returned (.tuple #[]) ∧ DevX w' db st (burnt S) k N gl bm q pv gs Dm ∧ Turns (fun i => i = db) w w' := by
  obtain ⟨c0, c2, c3, c4, c5, c6, fz⟩ := h.cells
  have f5 := fz 5
  have f6 := fz 6
  have hfu := h.good.fuse
  by_cases h0 : S.fuse = 0
  · have e0 : burnt S = S := by unfold burnt; rw [if_pos h0]
    rw [e0]
    rw [h0] at c5
    have HX : Hid (DevX w db st S k N gl bm q pv gs Dm) := h
    clear h fz
    go_enter Tryz.func194, Tryz.ntmps194
    go_wp2
    (first | go_end0 | refine bodyPost_ret (results_none rfl _ _ _) rfl ?_)
    exact ⟨rfl, HX.out, Turns.refl _ _⟩
  · obtain ⟨f, hf⟩ : ∃ f, S.fuse = f + 1 := ⟨S.fuse - 1, by omega⟩
    have hs := h.db (S' := { S with fuse := f }) (st' := st) 5 (.int .i64 f) ⟨rfl, rfl, by simp; omega⟩ rfl
    have HX : Hid _ := hs
    by_cases h1 : f = 0
    · have e0 : burnt S = { S with fuse := f, off := true } := by unfold burnt; rw [if_neg h0, hf, h1]; simp
      have hs2 := hs.db (S' := { S with fuse := f, off := true }) (st' := st) 6 (.bool true) ⟨rfl, rfl, by simp; omega⟩ rfl
      have HX2 : Hid _ := hs2
      rw [e0]
      have hfi : (S.fuse : Int) = 1 := by omega
      subst h1
      rw [hfi] at c5
      clear h fz hs hs2
      go_enter Tryz.func194, Tryz.ntmps194
      go_wp2
      (first | go_end0 | refine bodyPost_ret (results_none rfl _ _ _) rfl ?_)
      exact ⟨rfl, HX2.out, (Turns.cell w db 5 _).trans (Turns.cell _ db 6 _) (fun _ _ h => h)⟩
    · have e0 : burnt S = { S with fuse := f } := by unfold burnt; rw [if_neg h0, hf, decide_eq_false (by omega)]; simp
      rw [e0]
      have hfi : (S.fuse : Int) = f + 1 := by omega
      have hne : ((f : Int) == 0) = false := by simp; omega
      have hfb : (f : Int) ≤ 9223372036854775806 := by omega
      rw [hfi] at c5
      clear h fz hs
      go_enter Tryz.func194, Tryz.ntmps194
      go_wp2
      (first | go_end0 | refine bodyPost_ret (results_none rfl _ _ _) rfl ?_)
      exact ⟨rfl, HX.out, Turns.cell w db 5 _⟩
end Go.Proofs.YtfmcbjlagdanjaaGreatDoor

/- holding, New, Image, pend by their contracts. -/
namespace Go.Proofs.YtfmcbjlagdanjaaGreatDoor
open Go.RowKit Go.Maps
open Go.MuLone
set_option maxRecDepth 100000

theorem law3 : Keyed Tryz.prog 3 := int_keyed Tryz.underlying3
theorem Tryz.info141 : (Tryz.prog.info? 141).map (fun i => (i.zero, i.size, i.bytes)) = some (some (.agg #[.int .i64 0, .slice none 0 0]), 2, 32) := by kernel_rfl

set_option maxHeartbeats 1000000 in
theorem holding_any (g k : Nat) (bs : List Int) (w : World) (hb : w.heap[g]? = some (bl bs)) (hG : Good (fresh bs) k) :
    Calls Tryz.prog 67 #[.slice (some ⟨g, 0, none⟩) (512 * k) (512 * k)] w fun e w' => ∃ db, e = .returned (.pointer (some ⟨db, 0, none⟩)) ∧ Dev w' db 0 (fresh bs) k 0 (grow (fun i => i = g) w w') ∧ Below w.heap.size w w' ∧ w.heap.size ≤ db := by
  have hglt := heap_lt hb
  have hM := World.ownsMap_made w Tryz.prog 3 RV
  have hb1 : Below w.heap.size w (w.alloc (.map #[] 0)) := (Below.refl _ w).alloc (Nat.le_refl _) _
  have hb2 : ∀ o, Below w.heap.size w ((w.alloc (.map #[] 0)).alloc o) := fun o => hb1.alloc hb1.size o
  have hh := fun o => (MapKept.heap_alloc (w.alloc (.map #[] 0)) o).1
  have hs1 : (w.alloc (.map #[] 0)).heap.size = w.heap.size + 1 := by simp
  have hmm := fun (w : World) => run_makeMap (P := Tryz.prog) 105 w
  go_enter Tryz.func67, Tryz.ntmps67
  go_wp2
  go_ret
  refine ⟨w.heap.size + 1, rfl, ⟨g, w.heap.size, 0, .slice none 0 0, [], .map [], ⟨hG, ?_, ?_, World.ownsRow_nil _ _ _ _, rfl, Nat.le_refl _, (fun i p g h => by simp [fresh] at h), ?_, ?_, by omega, by simp, by simp, by simp [Value.ownBlock], by simp [Value.ownBlock], by simp⟩, ⟨by simp [grow], by simp [grow], by simp [grow]; omega, (fun b h => by simp [Value.ownBlock] at h), by simp⟩, ?_⟩, hb2 _, by omega⟩
  · rw [← hs1, hh]; rfl
  · exact ((hb2 _).block g hglt).trans hb
  · exact hM.alloc _
  · intro b hb
    exact ⟨rfl, fun zd => rfl⟩
  · intro i hi
    rcases hi with rfl | h
    · simp; omega
    · exact h.2

theorem zeros_bl (w : World) (n : Nat) : (w.alloc (.cells (madeCells #[.int .u8 0] n) 5)).heap[w.heap.size]? = some (bl (List.replicate n 0)) := by
  rw [made_row]; simp

set_option maxHeartbeats 1000000 in
theorem image_good (ao : Option Addr) (k c : Nat) (bs : List Int) (w : World) (h1 : 1 ≤ k) (h2 : k ≤ 4096) (hL : Lies w ao (512 * k) c bs) (hby : ∀ x ∈ bs, 0 ≤ x ∧ x ≤ 255) :
    Calls Tryz.prog 26 #[.slice ao (512 * k) c] w fun e w' => ∃ db, e = .returned (.tuple #[.pointer (some ⟨db, 0, none⟩), .int .i64 0]) ∧ Dev w' db 0 (fresh bs) k 0 (grow (fun _ => False) w w') ∧ Below w.heap.size w w' := by
  have h1i : (1 : Int) ≤ k := by omega
  have h2i : (k : Int) ≤ 4096 := by omega
  have hk := decide_eq_true (show (1 : Int) ≤ k ∧ (k : Int) ≤ 4096 from ⟨h1i, h2i⟩)
  have hG : Good (fresh bs) k := Good.fresh hL.hlen h1 h2 hby
  go_enter Tryz.func26, Tryz.ntmps26
  go_wp2_with (first
    | (go_at_call 66; refine (canBe_any _ _).mono ?_; rintro e wn ⟨rfl, hwn⟩; subst wn; rw [hk]))
  refine (copied_any ao _ c bs _ (by omega) hL).mono ?_
  rintro e w1 ⟨g, rfl, hg, hgb, hb1⟩
  go_wp2_with fail
  refine (holding_any g k _ _ hgb hG).mono ?_
  rintro e w2 ⟨db, rfl, hD, hb2, _⟩
  go_wp2
  go_ret2
  have hs2 := hb2.size
  have hs1 := heap_lt hgb
  refine ⟨db, rfl, hD.foot ?_ (fun i hi => (hi.elim False.elim id).2), hb1.trans (hb2.mono hb1.size)⟩
  rintro i (rfl | h)
  · exact Or.inr ⟨hg, by omega⟩
  · exact Or.inr ⟨Nat.le_trans hb1.size h.1, h.2⟩
end Go.Proofs.YtfmcbjlagdanjaaGreatDoor
