/- Plain words on worlds and numbers, which the contracts below use. -/
import Derived.Test.YtjaheoccofcklabDoorChecked
import Derived.WalkKit
import Derived.WalkSpells
import Derived.WalkLawsBesides
import Derived.Deep.RegionHeld3
import Derived.FnLit
import Derived.Deep.WholeRow
import Derived.WalkSmall
namespace Go.Proofs.YtjaheoccofcklabDoor
open Go.RowKit
set_option maxRecDepth 100000

/-- A fact that the walk does not see. -/
structure Hid (p : Prop) : Prop where
  out : p
theorem newBox (w : World) (o : Obj) : Below w.heap.size w (w.alloc o) := (Below.refl _ w).alloc (Nat.le_refl _) o

/-- The table of the rows, as it is laid. -/
structure Rws (w : World) : Prop where
  c0 : w.cell? ⟨0, 0, none⟩ = some (.int .i64 0)
  c1 : w.cell? ⟨0, 1, none⟩ = some (.int .i64 16777216)
  c2 : w.cell? ⟨0, 2, none⟩ = some (.int .i64 0)
  c3 : w.cell? ⟨0, 3, none⟩ = some (.int .i64 16777216)
  c4 : w.cell? ⟨0, 4, none⟩ = some (.int .i64 1)
  c5 : w.cell? ⟨0, 5, none⟩ = some (.int .i64 1048576)
  c6 : w.cell? ⟨0, 6, none⟩ = some (.int .i64 0)
  c7 : w.cell? ⟨0, 7, none⟩ = some (.int .i64 20)
theorem Rws.later {B : Nat} {w w' : World} (h : Rws w) (hb : Below B w w') (hB : w.heap.size ≤ B) : Rws w' := by
  have g : ∀ {p : Addr} {v : Value}, w.cell? p = some v → w'.cell? p = some v := fun {p v} hc => (hb.cell (Nat.lt_of_lt_of_le (World.block_lt_of_cell? w _ hc) hB)).trans hc
  exact ⟨g h.c0, g h.c1, g h.c2, g h.c3, g h.c4, g h.c5, g h.c6, g h.c7⟩

/-- Params. -/
@[ext] structure Par where
  mi : Int
  fi : Int
  ma : Int
/-- An estimate. -/
@[ext] structure Est where
  s : Int
  v : Int
  r : Int
  n : Int
  k : Bool
abbrev paV (p : Par) : Value := .agg #[.int .i64 p.mi, .int .i64 p.fi, .int .i64 p.ma]
abbrev esV (e : Est) : Value := .agg #[.int .i64 e.s, .int .i64 e.v, .int .i64 e.r, .int .i64 e.n, .bool e.k]
/-- Params in a box. -/
structure PBox (w : World) (b : Nat) (p : Par) : Prop where
  c0 : w.cell? ⟨b, 0, none⟩ = some (.int .i64 p.mi)
  c1 : w.cell? ⟨b, 1, none⟩ = some (.int .i64 p.fi)
  c2 : w.cell? ⟨b, 2, none⟩ = some (.int .i64 p.ma)
theorem PBox.of {w : World} {b : Nat} {p : Par} {t : TypeId} (h : w.heap[b]? = some (.cells #[.int .i64 p.mi, .int .i64 p.fi, .int .i64 p.ma] t)) : PBox w b p := by
  constructor <;> simp [World.cell?, h]
theorem PBox.later {B : Nat} {w w' : World} {b : Nat} {p : Par} (h : PBox w b p) (hb : Below B w w') (hB : b < B) : PBox w' b p :=
  ⟨(hb.cell (p := ⟨b, 0, none⟩) hB).trans h.c0, (hb.cell (p := ⟨b, 1, none⟩) hB).trans h.c1, (hb.cell (p := ⟨b, 2, none⟩) hB).trans h.c2⟩
/-- An estimate in a box. -/
structure EBox (w : World) (b : Nat) (e : Est) : Prop where
  c0 : w.cell? ⟨b, 0, none⟩ = some (.int .i64 e.s)
  c1 : w.cell? ⟨b, 1, none⟩ = some (.int .i64 e.v)
  c2 : w.cell? ⟨b, 2, none⟩ = some (.int .i64 e.r)
  c3 : w.cell? ⟨b, 3, none⟩ = some (.int .i64 e.n)
  c4 : w.cell? ⟨b, 4, none⟩ = some (.bool e.k)
  f0 : w.frozen? ⟨b, 0, none⟩ = false
  f1 : w.frozen? ⟨b, 1, none⟩ = false
  f2 : w.frozen? ⟨b, 2, none⟩ = false
  f3 : w.frozen? ⟨b, 3, none⟩ = false
  f4 : w.frozen? ⟨b, 4, none⟩ = false
theorem EBox.of {w : World} {b : Nat} {e : Est} {t : TypeId} (h : w.heap[b]? = some (.cells #[.int .i64 e.s, .int .i64 e.v, .int .i64 e.r, .int .i64 e.n, .bool e.k] t)) : EBox w b e := by
  constructor <;> simp [World.cell?, World.frozen?, h]
theorem EBox.later {B : Nat} {w w' : World} {b : Nat} {e : Est} (h : EBox w b e) (hb : Below B w w') (hB : b < B) : EBox w' b e :=
  ⟨(hb.cell (p := ⟨b, 0, none⟩) hB).trans h.c0, (hb.cell (p := ⟨b, 1, none⟩) hB).trans h.c1, (hb.cell (p := ⟨b, 2, none⟩) hB).trans h.c2, (hb.cell (p := ⟨b, 3, none⟩) hB).trans h.c3, (hb.cell (p := ⟨b, 4, none⟩) hB).trans h.c4,
   (hb.frozen (p := ⟨b, 0, none⟩) hB).trans h.f0, (hb.frozen (p := ⟨b, 1, none⟩) hB).trans h.f1, (hb.frozen (p := ⟨b, 2, none⟩) hB).trans h.f2, (hb.frozen (p := ⟨b, 3, none⟩) hB).trans h.f3, (hb.frozen (p := ⟨b, 4, none⟩) hB).trans h.f4⟩
/-- A row in a box. -/
structure RBox (w : World) (b : Nat) (x y : Int) : Prop where
  c0 : w.cell? ⟨b, 0, none⟩ = some (.int .i64 x)
  c1 : w.cell? ⟨b, 1, none⟩ = some (.int .i64 y)
  f0 : w.frozen? ⟨b, 0, none⟩ = false
  f1 : w.frozen? ⟨b, 1, none⟩ = false
theorem RBox.of {w : World} {b : Nat} {x y : Int} {t : TypeId} (h : w.heap[b]? = some (.cells #[.int .i64 x, .int .i64 y] t)) : RBox w b x y := by
  constructor <;> simp [World.cell?, World.frozen?, h]
theorem RBox.later {B : Nat} {w w' : World} {b : Nat} {x y : Int} (h : RBox w b x y) (hb : Below B w w') (hB : b < B) : RBox w' b x y :=
  ⟨(hb.cell (p := ⟨b, 0, none⟩) hB).trans h.c0, (hb.cell (p := ⟨b, 1, none⟩) hB).trans h.c1, (hb.frozen (p := ⟨b, 0, none⟩) hB).trans h.f0, (hb.frozen (p := ⟨b, 1, none⟩) hB).trans h.f1⟩
theorem lt_of_block {w : World} {b : Nat} {o : Obj} (h : w.heap[b]? = some o) : b < w.heap.size := (Array.getElem?_eq_some_iff.1 h).1
/-- The second of two new blocks. -/
theorem heap_new2 (w : World) (o o' : Obj) : ((w.alloc o).alloc o').heap[w.heap.size + 1]? = some o' := by
  have := heap_alloc_last (w.alloc o) o'
  simpa using this
/-- The first of two new blocks. -/
theorem heap_new1 (w : World) (o o' : Obj) : ((w.alloc o).alloc o').heap[w.heap.size]? = some o := by
  rw [Below.heap_alloc _ _ _ (by simp)]
  exact heap_alloc_last w o
theorem newBox2 (w : World) (o o' : Obj) : Below w.heap.size w ((w.alloc o).alloc o') := (newBox w o).trans ((newBox (w.alloc o) o').mono (newBox w o).size)
/-- The estimate of zeros. -/
def esZ : Est := ⟨0, 0, 0, 0, false⟩
end Go.Proofs.YtjaheoccofcklabDoor
