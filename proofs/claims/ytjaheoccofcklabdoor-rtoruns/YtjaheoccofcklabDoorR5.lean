/- kept and learn. -/
import Derived.Test.YtjaheoccofcklabDoorR4
namespace Go.Proofs.YtjaheoccofcklabDoor
open Go.RowKit
set_option maxRecDepth 100000

theorem EBox.s0 {w : World} {b : Nat} {e : Est} (h : EBox w b e) (x : Int) : EBox (w.setCell ⟨b, 0, none⟩ (.int .i64 x)) b { e with s := x } := by
  obtain ⟨h0, h1, h2, h3, h4, f0, f1, f2, f3, f4⟩ := h
  constructor <;> simp [go_sem, h0, h1, h2, h3, h4, f0, f1, f2, f3, f4]
theorem EBox.s1 {w : World} {b : Nat} {e : Est} (h : EBox w b e) (x : Int) : EBox (w.setCell ⟨b, 1, none⟩ (.int .i64 x)) b { e with v := x } := by
  obtain ⟨h0, h1, h2, h3, h4, f0, f1, f2, f3, f4⟩ := h
  constructor <;> simp [go_sem, h0, h1, h2, h3, h4, f0, f1, f2, f3, f4]
theorem EBox.s2 {w : World} {b : Nat} {e : Est} (h : EBox w b e) (x : Int) : EBox (w.setCell ⟨b, 2, none⟩ (.int .i64 x)) b { e with r := x } := by
  obtain ⟨h0, h1, h2, h3, h4, f0, f1, f2, f3, f4⟩ := h
  constructor <;> simp [go_sem, h0, h1, h2, h3, h4, f0, f1, f2, f3, f4]
theorem EBox.s3 {w : World} {b : Nat} {e : Est} (h : EBox w b e) (x : Int) : EBox (w.setCell ⟨b, 3, none⟩ (.int .i64 x)) b { e with n := x } := by
  obtain ⟨h0, h1, h2, h3, h4, f0, f1, f2, f3, f4⟩ := h
  constructor <;> simp [go_sem, h0, h1, h2, h3, h4, f0, f1, f2, f3, f4]
theorem EBox.s4 {w : World} {b : Nat} {e : Est} (h : EBox w b e) (x : Bool) : EBox (w.setCell ⟨b, 4, none⟩ (.bool x)) b { e with k := x } := by
  obtain ⟨h0, h1, h2, h3, h4, f0, f1, f2, f3, f4⟩ := h
  constructor <;> simp [go_sem, h0, h1, h2, h3, h4, f0, f1, f2, f3, f4]
theorem EBox.off {w : World} {b b' i : Nat} {e : Est} (h : EBox w b e) (hn : b ≠ b') (v : Value) : EBox (w.setCell ⟨b', i, none⟩ v) b e := by
  have hh : (w.setCell ⟨b', i, none⟩ v).heap[b]? = w.heap[b]? := Below.heap_setCell w _ v b hn
  obtain ⟨h0, h1, h2, h3, h4, f0, f1, f2, f3, f4⟩ := h
  constructor <;> simp only [World.cell?, World.frozen?, hh] at * <;> assumption
theorem PBox.off {w : World} {b b' i : Nat} {p : Par} (h : PBox w b p) (hn : b ≠ b') (v : Value) : PBox (w.setCell ⟨b', i, none⟩ v) b p := by
  have hh : (w.setCell ⟨b', i, none⟩ v).heap[b]? = w.heap[b]? := Below.heap_setCell w _ v b hn
  obtain ⟨h0, h1, h2⟩ := h
  constructor <;> simp only [World.cell?, hh] at * <;> assumption
/-- A whole estimate laid into a box. -/
def eset (w : World) (b : Nat) (e : Est) : World := ((((w.setCell ⟨b, 0, none⟩ (.int .i64 e.s)).setCell ⟨b, 1, none⟩ (.int .i64 e.v)).setCell ⟨b, 2, none⟩ (.int .i64 e.r)).setCell ⟨b, 3, none⟩ (.int .i64 e.n)).setCell ⟨b, 4, none⟩ (.bool e.k)
theorem EBox.set {w : World} {b : Nat} {e0 : Est} (h : EBox w b e0) (e : Est) : EBox (eset w b e) b e :=
  ((((h.s0 e.s).s1 e.v).s2 e.r).s3 e.n).s4 e.k
theorem below_eset {B : Nat} {w0 w : World} {b : Nat} (h : Below B w0 w) (hB : B ≤ b) (e : Est) : Below B w0 (eset w b e) :=
  ((((h.setCell (p := ⟨b, 0, none⟩) hB _).setCell (p := ⟨b, 1, none⟩) hB _).setCell (p := ⟨b, 2, none⟩) hB _).setCell (p := ⟨b, 3, none⟩) hB _).setCell (p := ⟨b, 4, none⟩) hB _
theorem res_est {fn : Func} {q : Tmp} (hf : fn.results = #[.cell q 25]) {tmps : Array Value} {b : Nat} (hq : tmps.getD q undef = .pointer (some ⟨b, 0, none⟩)) {w : World} {e : Est} (h : EBox w b e) :
    (results fn tmps).run Tryd.prog w = .ok (esV e) w := by
  obtain ⟨h0, h1, h2, h3, h4, _, _, _, _, _⟩ := h
  have hq' : tmps[q]?.getD undef = .pointer (some ⟨b, 0, none⟩) := by rw [← hq]; simp
  simp [results, hf, hq', go_sem, h0, h1, h2, h3, h4]
theorem newBox3 (w : World) (o o' o'' : Obj) : Below w.heap.size w (((w.alloc o).alloc o').alloc o'') := (newBox2 w o o').trans ((newBox _ o'').mono (newBox2 w o o').size)
theorem heap_new31 (w : World) (o o' o'' : Obj) : (((w.alloc o).alloc o').alloc o'').heap[w.heap.size]? = some o := by
  rw [Below.heap_alloc _ _ _ (by simp; omega)]
  exact heap_new1 w o o'
theorem heap_new32 (w : World) (o o' o'' : Obj) : (((w.alloc o).alloc o').alloc o'').heap[w.heap.size + 1]? = some o' := by
  rw [Below.heap_alloc _ _ _ (by simp)]
  exact heap_new2 w o o'
theorem heap_new33 (w : World) (o o' o'' : Obj) : (((w.alloc o).alloc o').alloc o'').heap[w.heap.size + 2]? = some o'' := by
  have := heap_alloc_last ((w.alloc o).alloc o') o''
  simpa using this
abbrev paO (p : Par) : Obj := .cells #[.int .i64 p.mi, .int .i64 p.fi, .int .i64 p.ma] 23
abbrev esO (e : Est) : Obj := .cells #[.int .i64 e.s, .int .i64 e.v, .int .i64 e.r, .int .i64 e.n, .bool e.k] 25
abbrev zO : Obj := .cells #[.int .i64 0, .int .i64 0, .int .i64 0, .int .i64 0, .bool false] 25
/-- Params, an estimate, and an estimate to be handed out, in three boxes one behind the other. -/
structure PER (w : World) (b : Nat) (p : Par) (e z : Est) : Prop where
  t : Rws w
  p : PBox w b p
  e : EBox w (b + 1) e
  z : EBox w (b + 1 + 1) z
  s : b + 1 + 1 < w.heap.size
theorem PER.later {w w' : World} {b : Nat} {p : Par} {e z : Est} (h : PER w b p e z) (hb : Below w.heap.size w w') : PER w' b p e z :=
  ⟨h.t.later hb (Nat.le_refl _), h.p.later hb (by have := h.s; omega), h.e.later hb (by have := h.s; omega), h.z.later hb h.s, Nat.lt_of_lt_of_le h.s hb.size⟩
theorem PER.new {w : World} (p : Par) (e : Est) (hR : Rws w) : PER (((w.alloc (paO p)).alloc (esO e)).alloc zO) w.heap.size p e esZ :=
  ⟨hR.later (newBox3 w _ _ _) (Nat.le_refl _), PBox.of (heap_new31 w _ _ _), EBox.of (heap_new32 w _ _ _), EBox.of (heap_new33 w _ _ _), by simp⟩
/-- What is done to the second box. -/
theorem PER.turn {w w' : World} {b i : Nat} {v : Value} {p : Par} {e e' z : Est} (h : PER w b p e z) (hw : w' = w.setCell ⟨b + 1, i, none⟩ v) (he : EBox w' (b + 1) e') (hR : 0 < b) : PER w' b p e' z := by
  subst hw
  have hb : Below (b + 1) w (w.setCell ⟨b + 1, i, none⟩ v) := (Below.refl (b + 1) w).setCell (p := ⟨b + 1, i, none⟩) (Nat.le_refl _) v
  have hT : Rws (w.setCell ⟨b + 1, i, none⟩ v) := by
    have g : ∀ {k : Nat} {v' : Value}, w.cell? ⟨0, k, none⟩ = some v' → (w.setCell ⟨b + 1, i, none⟩ v).cell? ⟨0, k, none⟩ = some v' := fun {k v'} hc => (hb.cell (by show 0 < b + 1; omega)).trans hc
    exact ⟨g h.t.c0, g h.t.c1, g h.t.c2, g h.t.c3, g h.t.c4, g h.t.c5, g h.t.c6, g h.t.c7⟩
  exact ⟨hT, h.p.off (by omega) _, he, h.z.off (by omega) _, Nat.lt_of_lt_of_le h.s hb.size⟩
theorem Rws.lt {w : World} (h : Rws w) : 0 < w.heap.size := World.block_lt_of_cell? w _ h.c0

end Go.Proofs.YtjaheoccofcklabDoor
