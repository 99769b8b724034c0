/- Shapes and layouts, as data and in memory; the plan of a shape. -/
import Derived.Test.YtgpeefedboomoabDoorSame
namespace Go.Proofs.YtgpeefedboomoabDoor
open Go.RowKit
set_option maxRecDepth 100000

/-- The eight numbers of a shape. -/
@[ext] structure Shp where
  cl : Int
  wi : Int
  pl : Int
  ca : Int
  ino : Int
  qu : Int
  da : Int
  jo : Int
/-- The twelve numbers of a layout, and its shape. -/
@[ext] structure Lay where
  bo : Int
  jr : Int
  jl : Int
  le : Int
  ll : Int
  bi : Int
  bl : Int
  ta : Int
  tl : Int
  dt : Int
  dl : Int
  to : Int
  sh : Shp
/-- A shape's numbers in their order. -/
def Shp.nums (s : Shp) : List Int := [s.cl, s.wi, s.pl, s.ca, s.ino, s.qu, s.da, s.jo]
abbrev shV (s : Shp) : Value := .agg #[.int .i64 s.cl, .int .i64 s.wi, .int .i64 s.pl, .int .i64 s.ca, .int .i64 s.ino, .int .i64 s.qu, .int .i64 s.da, .int .i64 s.jo]
abbrev lyV (l : Lay) : Value := .agg #[.int .i64 l.bo, .int .i64 l.jr, .int .i64 l.jl, .int .i64 l.le, .int .i64 l.ll, .int .i64 l.bi, .int .i64 l.bl, .int .i64 l.ta, .int .i64 l.tl, .int .i64 l.dt, .int .i64 l.dl, .int .i64 l.to, .int .i64 l.sh.cl, .int .i64 l.sh.wi, .int .i64 l.sh.pl, .int .i64 l.sh.ca, .int .i64 l.sh.ino, .int .i64 l.sh.qu, .int .i64 l.sh.da, .int .i64 l.sh.jo]
/-- The shape of zeros. -/
def shZ : Shp := ⟨0, 0, 0, 0, 0, 0, 0, 0⟩
/-- The layout of zeros. -/
def lyZ : Lay := ⟨0, 0, 0, 0, 0, 0, 0, 0, 0, 0, 0, 0, shZ⟩
/-- The numbers are in their bounds. -/
structure InB (s : Shp) : Prop where
  cl0 : 1 ≤ s.cl
  cl1 : s.cl ≤ 8
  wi0 : 1 ≤ s.wi
  wi1 : s.wi ≤ 8
  pl0 : 1 ≤ s.pl
  pl1 : s.pl ≤ 8
  ca0 : 1 ≤ s.ca
  ca1 : s.ca ≤ 64
  ino0 : 2 ≤ s.ino
  ino1 : s.ino ≤ 256
  qu0 : 0 ≤ s.qu
  qu1 : s.qu ≤ 524288
  da0 : 1 ≤ s.da
  da1 : s.da ≤ 4096
  jo0 : 27 ≤ s.jo
  jo1 : s.jo ≤ 512
instance (s : Shp) : Decidable (InB s) :=
  decidable_of_iff (1 ≤ s.cl ∧ s.cl ≤ 8 ∧ 1 ≤ s.wi ∧ s.wi ≤ 8 ∧ 1 ≤ s.pl ∧ s.pl ≤ 8 ∧ 1 ≤ s.ca ∧ s.ca ≤ 64 ∧ 2 ≤ s.ino ∧ s.ino ≤ 256 ∧ 0 ≤ s.qu ∧ s.qu ≤ 524288 ∧ 1 ≤ s.da ∧ s.da ≤ 4096 ∧ 27 ≤ s.jo ∧ s.jo ≤ 512)
    ⟨fun ⟨a, b, c, d, e, f, g, h, i, j, k, l, m, n, o, p⟩ => ⟨a, b, c, d, e, f, g, h, i, j, k, l, m, n, o, p⟩, fun ⟨a, b, c, d, e, f, g, h, i, j, k, l, m, n, o, p⟩ => ⟨a, b, c, d, e, f, g, h, i, j, k, l, m, n, o, p⟩⟩
/-- The layout of a shape. -/
def layOf (s : Shp) : Lay :=
  ⟨1, 2, s.jo, 2 + s.jo, 1 + 3 * s.ca, 2 + s.jo + (1 + 3 * s.ca), 1, 2 + s.jo + (1 + 3 * s.ca) + 1, (s.ino + 3) / 4, 2 + s.jo + (1 + 3 * s.ca) + 1 + (s.ino + 3) / 4, s.da, 2 + s.jo + (1 + 3 * s.ca) + 1 + (s.ino + 3) / 4 + s.da, s⟩
/-- What Data must be at the least. -/
def leastD (s : Shp) : Int := (s.qu + 511) / 512 + 4 * s.ino
/-- Plan's error. -/
def planE (s : Shp) : Int := if ¬ InB s then 2 else if s.da < leastD s ∨ 4096 < (layOf s).to then 63 else 0
/-- Plan's layout. -/
def planL (s : Shp) : Lay := if planE s = 0 then layOf s else lyZ

/-- A shape in a box. -/
structure ShBox (w : World) (b : Nat) (s : Shp) : Prop where
  c0 : w.cell? ⟨b, 0, none⟩ = some (.int .i64 s.cl)
  c1 : w.cell? ⟨b, 1, none⟩ = some (.int .i64 s.wi)
  c2 : w.cell? ⟨b, 2, none⟩ = some (.int .i64 s.pl)
  c3 : w.cell? ⟨b, 3, none⟩ = some (.int .i64 s.ca)
  c4 : w.cell? ⟨b, 4, none⟩ = some (.int .i64 s.ino)
  c5 : w.cell? ⟨b, 5, none⟩ = some (.int .i64 s.qu)
  c6 : w.cell? ⟨b, 6, none⟩ = some (.int .i64 s.da)
  c7 : w.cell? ⟨b, 7, none⟩ = some (.int .i64 s.jo)
theorem ShBox.new (w : World) (s : Shp) : ShBox (w.alloc (.cells #[.int .i64 s.cl, .int .i64 s.wi, .int .i64 s.pl, .int .i64 s.ca, .int .i64 s.ino, .int .i64 s.qu, .int .i64 s.da, .int .i64 s.jo] 33)) w.heap.size s := by
  constructor <;> simp [go_sem]
theorem ShBox.later {B : Nat} {w w' : World} {b : Nat} {s : Shp} (h : ShBox w b s) (hb : Below B w w') (hB : b < B) : ShBox w' b s := by
  constructor
  · exact (hb.cell (p := ⟨b, 0, none⟩) hB).trans h.c0
  · exact (hb.cell (p := ⟨b, 1, none⟩) hB).trans h.c1
  · exact (hb.cell (p := ⟨b, 2, none⟩) hB).trans h.c2
  · exact (hb.cell (p := ⟨b, 3, none⟩) hB).trans h.c3
  · exact (hb.cell (p := ⟨b, 4, none⟩) hB).trans h.c4
  · exact (hb.cell (p := ⟨b, 5, none⟩) hB).trans h.c5
  · exact (hb.cell (p := ⟨b, 6, none⟩) hB).trans h.c6
  · exact (hb.cell (p := ⟨b, 7, none⟩) hB).trans h.c7
/-- A layout in a box. -/
structure LyBox (w : World) (b : Nat) (l : Lay) : Prop where
  c0 : w.cell? ⟨b, 0, none⟩ = some (.int .i64 l.bo)
  c1 : w.cell? ⟨b, 1, none⟩ = some (.int .i64 l.jr)
  c2 : w.cell? ⟨b, 2, none⟩ = some (.int .i64 l.jl)
  c3 : w.cell? ⟨b, 3, none⟩ = some (.int .i64 l.le)
  c4 : w.cell? ⟨b, 4, none⟩ = some (.int .i64 l.ll)
  c5 : w.cell? ⟨b, 5, none⟩ = some (.int .i64 l.bi)
  c6 : w.cell? ⟨b, 6, none⟩ = some (.int .i64 l.bl)
  c7 : w.cell? ⟨b, 7, none⟩ = some (.int .i64 l.ta)
  c8 : w.cell? ⟨b, 8, none⟩ = some (.int .i64 l.tl)
  c9 : w.cell? ⟨b, 9, none⟩ = some (.int .i64 l.dt)
  c10 : w.cell? ⟨b, 10, none⟩ = some (.int .i64 l.dl)
  c11 : w.cell? ⟨b, 11, none⟩ = some (.int .i64 l.to)
  c12 : w.cell? ⟨b, 12, none⟩ = some (.int .i64 l.sh.cl)
  c13 : w.cell? ⟨b, 13, none⟩ = some (.int .i64 l.sh.wi)
  c14 : w.cell? ⟨b, 14, none⟩ = some (.int .i64 l.sh.pl)
  c15 : w.cell? ⟨b, 15, none⟩ = some (.int .i64 l.sh.ca)
  c16 : w.cell? ⟨b, 16, none⟩ = some (.int .i64 l.sh.ino)
  c17 : w.cell? ⟨b, 17, none⟩ = some (.int .i64 l.sh.qu)
  c18 : w.cell? ⟨b, 18, none⟩ = some (.int .i64 l.sh.da)
  c19 : w.cell? ⟨b, 19, none⟩ = some (.int .i64 l.sh.jo)
theorem LyBox.new (w : World) (l : Lay) : LyBox (w.alloc (.cells #[.int .i64 l.bo, .int .i64 l.jr, .int .i64 l.jl, .int .i64 l.le, .int .i64 l.ll, .int .i64 l.bi, .int .i64 l.bl, .int .i64 l.ta, .int .i64 l.tl, .int .i64 l.dt, .int .i64 l.dl, .int .i64 l.to, .int .i64 l.sh.cl, .int .i64 l.sh.wi, .int .i64 l.sh.pl, .int .i64 l.sh.ca, .int .i64 l.sh.ino, .int .i64 l.sh.qu, .int .i64 l.sh.da, .int .i64 l.sh.jo] 40)) w.heap.size l := by
  constructor <;> simp [go_sem]
theorem LyBox.later {B : Nat} {w w' : World} {b : Nat} {l : Lay} (h : LyBox w b l) (hb : Below B w w') (hB : b < B) : LyBox w' b l := by
  constructor
  · exact (hb.cell (p := ⟨b, 0, none⟩) hB).trans h.c0
  · exact (hb.cell (p := ⟨b, 1, none⟩) hB).trans h.c1
  · exact (hb.cell (p := ⟨b, 2, none⟩) hB).trans h.c2
  · exact (hb.cell (p := ⟨b, 3, none⟩) hB).trans h.c3
  · exact (hb.cell (p := ⟨b, 4, none⟩) hB).trans h.c4
  · exact (hb.cell (p := ⟨b, 5, none⟩) hB).trans h.c5
  · exact (hb.cell (p := ⟨b, 6, none⟩) hB).trans h.c6
  · exact (hb.cell (p := ⟨b, 7, none⟩) hB).trans h.c7
  · exact (hb.cell (p := ⟨b, 8, none⟩) hB).trans h.c8
  · exact (hb.cell (p := ⟨b, 9, none⟩) hB).trans h.c9
  · exact (hb.cell (p := ⟨b, 10, none⟩) hB).trans h.c10
  · exact (hb.cell (p := ⟨b, 11, none⟩) hB).trans h.c11
  · exact (hb.cell (p := ⟨b, 12, none⟩) hB).trans h.c12
  · exact (hb.cell (p := ⟨b, 13, none⟩) hB).trans h.c13
  · exact (hb.cell (p := ⟨b, 14, none⟩) hB).trans h.c14
  · exact (hb.cell (p := ⟨b, 15, none⟩) hB).trans h.c15
  · exact (hb.cell (p := ⟨b, 16, none⟩) hB).trans h.c16
  · exact (hb.cell (p := ⟨b, 17, none⟩) hB).trans h.c17
  · exact (hb.cell (p := ⟨b, 18, none⟩) hB).trans h.c18
  · exact (hb.cell (p := ⟨b, 19, none⟩) hB).trans h.c19
/-- The table of the bounds, as it is laid. -/
structure Bds (w : World) : Prop where
  c0 : w.cell? ⟨0, 0, none⟩ = some (.int .i64 1)
  c1 : w.cell? ⟨0, 1, none⟩ = some (.int .i64 8)
  c2 : w.cell? ⟨0, 2, none⟩ = some (.int .i64 1)
  c3 : w.cell? ⟨0, 3, none⟩ = some (.int .i64 8)
  c4 : w.cell? ⟨0, 4, none⟩ = some (.int .i64 1)
  c5 : w.cell? ⟨0, 5, none⟩ = some (.int .i64 8)
  c6 : w.cell? ⟨0, 6, none⟩ = some (.int .i64 1)
  c7 : w.cell? ⟨0, 7, none⟩ = some (.int .i64 64)
  c8 : w.cell? ⟨0, 8, none⟩ = some (.int .i64 2)
  c9 : w.cell? ⟨0, 9, none⟩ = some (.int .i64 256)
  c10 : w.cell? ⟨0, 10, none⟩ = some (.int .i64 0)
  c11 : w.cell? ⟨0, 11, none⟩ = some (.int .i64 524288)
  c12 : w.cell? ⟨0, 12, none⟩ = some (.int .i64 1)
  c13 : w.cell? ⟨0, 13, none⟩ = some (.int .i64 4096)
  c14 : w.cell? ⟨0, 14, none⟩ = some (.int .i64 27)
  c15 : w.cell? ⟨0, 15, none⟩ = some (.int .i64 512)
theorem Bds.lt {w : World} (h : Bds w) : 0 < w.heap.size := World.block_lt_of_cell? w _ h.c0
theorem Bds.later {B : Nat} {w w' : World} (h : Bds w) (hb : Below B w w') (hB : w.heap.size ≤ B) : Bds w' := by
  have hl := Nat.lt_of_lt_of_le h.lt hB
  constructor
  · exact (hb.cell (p := ⟨0, 0, none⟩) hl).trans h.c0
  · exact (hb.cell (p := ⟨0, 1, none⟩) hl).trans h.c1
  · exact (hb.cell (p := ⟨0, 2, none⟩) hl).trans h.c2
  · exact (hb.cell (p := ⟨0, 3, none⟩) hl).trans h.c3
  · exact (hb.cell (p := ⟨0, 4, none⟩) hl).trans h.c4
  · exact (hb.cell (p := ⟨0, 5, none⟩) hl).trans h.c5
  · exact (hb.cell (p := ⟨0, 6, none⟩) hl).trans h.c6
  · exact (hb.cell (p := ⟨0, 7, none⟩) hl).trans h.c7
  · exact (hb.cell (p := ⟨0, 8, none⟩) hl).trans h.c8
  · exact (hb.cell (p := ⟨0, 9, none⟩) hl).trans h.c9
  · exact (hb.cell (p := ⟨0, 10, none⟩) hl).trans h.c10
  · exact (hb.cell (p := ⟨0, 11, none⟩) hl).trans h.c11
  · exact (hb.cell (p := ⟨0, 12, none⟩) hl).trans h.c12
  · exact (hb.cell (p := ⟨0, 13, none⟩) hl).trans h.c13
  · exact (hb.cell (p := ⟨0, 14, none⟩) hl).trans h.c14
  · exact (hb.cell (p := ⟨0, 15, none⟩) hl).trans h.c15
theorem newBox (w : World) (o : Obj) : Below w.heap.size w (w.alloc o) := (Below.refl _ w).alloc (Nat.le_refl _) o

theorem ShBox.all {w : World} {b : Nat} {s : Shp} (h : ShBox w b s) : w.cell? ⟨b, 0, none⟩ = some (.int .i64 s.cl) ∧ w.cell? ⟨b, 1, none⟩ = some (.int .i64 s.wi) ∧ w.cell? ⟨b, 2, none⟩ = some (.int .i64 s.pl) ∧ w.cell? ⟨b, 3, none⟩ = some (.int .i64 s.ca) ∧ w.cell? ⟨b, 4, none⟩ = some (.int .i64 s.ino) ∧ w.cell? ⟨b, 5, none⟩ = some (.int .i64 s.qu) ∧ w.cell? ⟨b, 6, none⟩ = some (.int .i64 s.da) ∧ w.cell? ⟨b, 7, none⟩ = some (.int .i64 s.jo) := ⟨h.c0, h.c1, h.c2, h.c3, h.c4, h.c5, h.c6, h.c7⟩
end Go.Proofs.YtgpeefedboomoabDoor
