/- The program's callOf. (Written by mkW6.py.) -/
import Derived.Test.YtjkmdacgiebbfaaDoorW5
namespace Go.Proofs.YtjkmdacgiebbfaaDoor
open Go.RowKit Go.Sort
set_option maxRecDepth 100000

/-- The program's letters of an operation. -/
def lettersOf (op : Int) : By := if op = 1 then [80] else if op = 2 then [72] else if op = 3 then [72, 79, 76] else if op = 4 then [72, 79, 68] else if op = 5 then [72, 78] else if op = 6 then [72, 78] else if op = 7 then [72, 78] else if op = 8 then [72, 78] else if op = 9 then [72, 78, 104, 110] else if op = 10 then [72, 78, 76] else []
def noOf (op : Int) : Int := if 1 ≤ op ∧ op ≤ 10 then op else 0
def rowA (op : Int) : Array Value := #[.int .i64 (noOf op), .string (tx (nameOf op)), .string (tx (lettersOf op))]
theorem op_cases {op : Int} (h : 1 ≤ op ∧ op ≤ 10) : op = 1 ∨ op = 2 ∨ op = 3 ∨ op = 4 ∨ op = 5 ∨ op = 6 ∨ op = 7 ∨ op = 8 ∨ op = 9 ∨ op = 10 := by omega
theorem letters_none (op : Int) (h : ¬ (1 ≤ op ∧ op ≤ 10)) : lettersOf op = [] ∧ formOf op = [] ∧ nameOf op = [] ∧ noOf op = 0 := by
  refine ⟨?_, ?_, ?_, if_neg h⟩
  · unfold lettersOf; simp only [show op ≠ 1 by omega, show op ≠ 2 by omega, show op ≠ 3 by omega, show op ≠ 4 by omega, show op ≠ 5 by omega, show op ≠ 6 by omega, show op ≠ 7 by omega, show op ≠ 8 by omega, show op ≠ 9 by omega, show op ≠ 10 by omega, if_false]
  · unfold formOf; simp only [show op ≠ 1 by omega, show op ≠ 2 by omega, show op ≠ 3 by omega, show op ≠ 4 by omega, show op ≠ 5 by omega, show op ≠ 6 by omega, show op ≠ 7 by omega, show op ≠ 8 by omega, show op ≠ 9 by omega, show op ≠ 10 by omega, if_false, or_self]
  · unfold nameOf; simp only [show op ≠ 1 by omega, show op ≠ 2 by omega, show op ≠ 3 by omega, show op ≠ 4 by omega, show op ≠ 5 by omega, show op ≠ 6 by omega, show op ≠ 7 by omega, show op ≠ 8 by omega, show op ≠ 9 by omega, show op ≠ 10 by omega, if_false]
def isLb (x : UInt8) : Bool := x == 72 || x == 104 || x == 79 || x == 76 || x == 80 || x == 78 || x == 110 || x == 68
theorem isL_of (x : UInt8) (h : isLb x = true) : isL x := by
  simp only [isLb, Bool.or_eq_true, beq_iff_eq] at h
  unfold isL
  rcases h with ((((((h | h) | h) | h) | h) | h) | h) | h <;> simp [h]
theorem letters_ok (op : Int) : (∀ x ∈ lettersOf op, isL x) ∧ (lettersOf op).map prgK = formOf op := by
  by_cases h : 1 ≤ op ∧ op ≤ 10
  · have hh : (lettersOf op).all isLb = true ∧ (lettersOf op).map prgK = formOf op := by
      rcases op_cases h with rfl | rfl | rfl | rfl | rfl | rfl | rfl | rfl | rfl | rfl <;> exact ⟨by decide, by decide⟩
    exact ⟨fun x hx => isL_of x (List.all_eq_true.1 hh.1 x hx), hh.2⟩
  · obtain ⟨e, f, _⟩ := letters_none op h
    rw [e, f]
    exact ⟨by simp, rfl⟩

theorem var_heap {w : World} {n : String} {g : Nat} {cs : Array Value} (hg : Tryd.prog.globalNamed n = some g) (h : w.var? Tryd.prog n = some cs) : ∃ t fr, w.heap[g]? = some (.cells cs t fr) := by
  unfold World.var? at h
  rw [hg] at h
  simp only [Option.bind_some] at h
  split at h
  · next heq =>
    simp only [Option.some.injEq] at h
    subst h
    exact ⟨_, _, heq⟩
  · cases h
theorem wpList_glob {P : Program} {w : World} {ops : Array Oper} {rest : List Oper} {o : Oper} {a : Act} {Q : Exit → Act → World → Prop} (hgd : o.guard = none) (ty : TypeId) (g : Nat)
    (ho : o.op = .load ty (.global g)) (v : Value) (hr : (loadVar ty ⟨g, 0, none⟩).run P w = .ok v w)
    (hk : wpList P ops Q rest (a.put o.dst v) w) : wpList P ops Q (o :: rest) a w := by
  refine wpList_plain hgd fun K hK => ?_
  unfold Oper.wp execOp
  have hl : (Instr.loadAt ty (a.eval (.global g))).run P w = .ok v w := by
    show (Instr.loadAt ty (.pointer (some ⟨g, 0, none⟩))).run P w = _
    simp [Instr.loadAt, Instr.sureAddr, hr]
  simp only [ho, Sem.run_bind, hl, Result.andThen_ok, Sem.run_pure]
  exact hK _ _ hk
theorem idx_0 (W : World) : (Instr.index 94 (.agg callCells) (.int .i64 0)).run Tryd.prog W = .ok (.agg #[.int .i64 1, .string ⟨#[108, 111, 111, 107, 117, 112]⟩, .string ⟨#[80]⟩]) W := by kernel_rfl
theorem idx_1 (W : World) : (Instr.index 94 (.agg callCells) (.int .i64 1)).run Tryd.prog W = .ok (.agg #[.int .i64 2, .string ⟨#[103, 101, 116, 97, 116, 116, 114]⟩, .string ⟨#[72]⟩]) W := by kernel_rfl
theorem idx_2 (W : World) : (Instr.index 94 (.agg callCells) (.int .i64 2)).run Tryd.prog W = .ok (.agg #[.int .i64 3, .string ⟨#[114, 101, 97, 100]⟩, .string ⟨#[72, 79, 76]⟩]) W := by kernel_rfl
theorem idx_3 (W : World) : (Instr.index 94 (.agg callCells) (.int .i64 3)).run Tryd.prog W = .ok (.agg #[.int .i64 4, .string ⟨#[119, 114, 105, 116, 101]⟩, .string ⟨#[72, 79, 68]⟩]) W := by kernel_rfl
theorem idx_4 (W : World) : (Instr.index 94 (.agg callCells) (.int .i64 4)).run Tryd.prog W = .ok (.agg #[.int .i64 5, .string ⟨#[99, 114, 101, 97, 116, 101]⟩, .string ⟨#[72, 78]⟩]) W := by kernel_rfl
theorem idx_5 (W : World) : (Instr.index 94 (.agg callCells) (.int .i64 5)).run Tryd.prog W = .ok (.agg #[.int .i64 6, .string ⟨#[114, 101, 109, 111, 118, 101]⟩, .string ⟨#[72, 78]⟩]) W := by kernel_rfl
theorem idx_6 (W : World) : (Instr.index 94 (.agg callCells) (.int .i64 6)).run Tryd.prog W = .ok (.agg #[.int .i64 7, .string ⟨#[109, 107, 100, 105, 114]⟩, .string ⟨#[72, 78]⟩]) W := by kernel_rfl
theorem idx_7 (W : World) : (Instr.index 94 (.agg callCells) (.int .i64 7)).run Tryd.prog W = .ok (.agg #[.int .i64 8, .string ⟨#[114, 109, 100, 105, 114]⟩, .string ⟨#[72, 78]⟩]) W := by kernel_rfl
theorem idx_8 (W : World) : (Instr.index 94 (.agg callCells) (.int .i64 8)).run Tryd.prog W = .ok (.agg #[.int .i64 9, .string ⟨#[114, 101, 110, 97, 109, 101]⟩, .string ⟨#[72, 78, 104, 110]⟩]) W := by kernel_rfl
theorem idx_9 (W : World) : (Instr.index 94 (.agg callCells) (.int .i64 9)).run Tryd.prog W = .ok (.agg #[.int .i64 10, .string ⟨#[114, 101, 97, 100, 100, 105, 114]⟩, .string ⟨#[72, 78, 76]⟩]) W := by kernel_rfl

theorem set3 {w : World} {b : Nat} {x0 x1 x2 : Value} {t : TypeId} (h : w.heap[b]? = some (.cells #[x0, x1, x2] t (0, 0))) (y0 y1 y2 : Value) : (((w.setCell ⟨b, 0, none⟩ y0).setCell ⟨b, 1, none⟩ y1).setCell ⟨b, 2, none⟩ y2).heap[b]? = some (.cells #[y0, y1, y2] t (0, 0)) := by
  have h1 : (w.setCell ⟨b, 0, none⟩ y0).heap[b]? = some (.cells #[y0, x1, x2] t (0, 0)) := by rw [setCell_eq_setRow w b 0 _ _ _ y0 h, setRow_heap w b _ _ _ _ h]; rfl
  have h2 : ((w.setCell ⟨b, 0, none⟩ y0).setCell ⟨b, 1, none⟩ y1).heap[b]? = some (.cells #[y0, y1, x2] t (0, 0)) := by rw [setCell_eq_setRow _ b 1 _ _ _ y1 h1, setRow_heap _ b _ _ _ _ h1]; rfl
  rw [setCell_eq_setRow _ b 2 _ _ _ y2 h2, setRow_heap _ b _ _ _ _ h2]; rfl
end Go.Proofs.YtjkmdacgiebbfaaDoor
