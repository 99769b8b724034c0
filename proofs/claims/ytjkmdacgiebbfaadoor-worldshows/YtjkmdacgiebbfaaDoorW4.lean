/- Calls as plain mathematics; a call in a box; the program's callNumber, setCallText, bytesOfCall. -/
import Derived.Test.YtjkmdacgiebbfaaDoorW3
import Derived.Lib.OthersKept
namespace Go.Proofs.YtjkmdacgiebbfaaDoor
open Go.RowKit Go.Sort
set_option maxRecDepth 100000

/-- A call; dv: its Data as it lies. -/
structure Cl where
  op : Int
  h : Int
  h2 : Int
  off : Int
  len : Int
  path : ByteArray
  name : ByteArray
  name2 : ByteArray
  dv : Value
  dl : By
def Cl.vals (c : Cl) : Array Value := #[.int .i64 c.op, .int .i64 c.h, .int .i64 c.h2, .int .i64 c.off, .int .i64 c.len, .string c.path, .string c.name, .string c.name2, c.dv]
def Cl.val (c : Cl) : Value := .agg c.vals
/-- Without the fields of these numbers. -/
def Cl.clear (c : Cl) (ks : List Nat) : Cl :=
  { op := c.op, h := if 1 ∈ ks then 0 else c.h, h2 := if 2 ∈ ks then 0 else c.h2, off := if 3 ∈ ks then 0 else c.off, len := if 4 ∈ ks then 0 else c.len,
    path := if 5 ∈ ks then ⟨#[]⟩ else c.path, name := if 6 ∈ ks then ⟨#[]⟩ else c.name, name2 := if 7 ∈ ks then ⟨#[]⟩ else c.name2,
    dv := if 8 ∈ ks then .slice none 0 0 else c.dv, dl := if 8 ∈ ks then [] else c.dl }
def Cl.bytes (c : Cl) : Nat := c.path.size + c.name.size + c.name2.size + c.dl.length
/-- The number at a field. -/
def Cl.numK (c : Cl) (k : Nat) : Int := match k with | 1 => c.h | 2 => c.h2 | 3 => c.off | 4 => c.len | _ => 0
def okN (n : Int) : Bool := decide (0 ≤ n) && decide (n ≤ 1073741824)
/-- The text at a field, as a word. -/
def Cl.textK (c : Cl) (k : Nat) : By := match k with | 5 => bs c.path | 6 => bs c.name | 7 => bs c.name2 | _ => c.dl
def Cl.wordK (c : Cl) (k : Nat) : By := if k ≤ 4 then Lib.itoa (c.numK k) else textT (c.textK k)
def Cl.left (c : Cl) : Bool := c.h != 0 || (c.h2 != 0 || (c.off != 0 || (c.len != 0 || decide (0 < c.bytes))))
/-- Which fields an operation has, in their order. -/
def formOf (op : Int) : List Nat := if op = 1 then [5] else if op = 2 then [1] else if op = 3 then [1, 3, 4] else if op = 4 then [1, 3, 8] else if op = 5 ∨ op = 6 ∨ op = 7 ∨ op = 8 then [1, 6] else if op = 9 then [1, 6, 2, 7] else if op = 10 then [1, 6, 4] else []
def nameOf (op : Int) : By := if op = 1 then [108, 111, 111, 107, 117, 112] else if op = 2 then [103, 101, 116, 97, 116, 116, 114] else if op = 3 then [114, 101, 97, 100] else if op = 4 then [119, 114, 105, 116, 101] else if op = 5 then [99, 114, 101, 97, 116, 101] else if op = 6 then [114, 101, 109, 111, 118, 101] else if op = 7 then [109, 107, 100, 105, 114] else if op = 8 then [114, 109, 100, 105, 114] else if op = 9 then [114, 101, 110, 97, 109, 101] else if op = 10 then [114, 101, 97, 100, 100, 105, 114] else []
/-- What is amiss with a call. -/
def Cl.err (c : Cl) : Int := if c.op < 1 ∨ 10 < c.op then 212 else if (c.clear (formOf c.op)).left = true then 218 else if (formOf c.op).any (fun k => decide (k ≤ 4) && !okN (c.numK k)) = true then 213 else 0
def Cl.text (c : Cl) : By := nameOf c.op ++ (formOf c.op).flatMap fun k => 32 :: c.wordK k

/-- The program's letters. -/
def prgK (x : UInt8) : Nat := if x = 72 then 1 else if x = 104 then 2 else if x = 79 then 3 else if x = 76 then 4 else if x = 80 then 5 else if x = 78 then 6 else if x = 110 then 7 else 8
def isL (x : UInt8) : Prop := x = 72 ∨ x = 104 ∨ x = 79 ∨ x = 76 ∨ x = 80 ∨ x = 78 ∨ x = 110 ∨ x = 68

/-- A call in its box. -/
structure Bx (w : World) (b : Nat) (c : Cl) : Prop where
  heap : w.heap[b]? = some (.cells c.vals 25 (0, 0))
theorem Bx.new (w : World) (c : Cl) : Bx (w.alloc (.cells c.vals 25)) w.heap.size c := ⟨heap_alloc_new _ _⟩
theorem Bx.lt {w : World} {b : Nat} {c : Cl} (h : Bx w b c) : b < w.heap.size := (Array.getElem?_eq_some_iff.1 h.heap).1
theorem Bx.below {w w' : World} {b : Nat} {c : Cl} (h : Bx w b c) (hb : Below w.heap.size w w') : Bx w' b c := ⟨(hb.block b h.lt).trans h.heap⟩
theorem Bx.cell {w : World} {b : Nat} {c : Cl} (h : Bx w b c) (k : Nat) (v : Value) (hv : c.vals[k]? = some v) : w.cell? ⟨b, k, none⟩ = some v := by rw [Lib.cell_of_heap h.heap]; exact hv
theorem Bx.cells {w : World} {b : Nat} {c : Cl} (h : Bx w b c) : w.cell? ⟨b, 0, none⟩ = some (.int .i64 c.op) ∧ w.cell? ⟨b, 1, none⟩ = some (.int .i64 c.h) ∧ w.cell? ⟨b, 2, none⟩ = some (.int .i64 c.h2) ∧ w.cell? ⟨b, 3, none⟩ = some (.int .i64 c.off) ∧ w.cell? ⟨b, 4, none⟩ = some (.int .i64 c.len) ∧ w.cell? ⟨b, 5, none⟩ = some (.string c.path) ∧ w.cell? ⟨b, 6, none⟩ = some (.string c.name) ∧ w.cell? ⟨b, 7, none⟩ = some (.string c.name2) ∧ w.cell? ⟨b, 8, none⟩ = some c.dv :=
  ⟨h.cell 0 _ rfl, h.cell 1 _ rfl, h.cell 2 _ rfl, h.cell 3 _ rfl, h.cell 4 _ rfl, h.cell 5 _ rfl, h.cell 6 _ rfl, h.cell 7 _ rfl, h.cell 8 _ rfl⟩
theorem Bx.free {w : World} {b : Nat} {c : Cl} (h : Bx w b c) (k : Nat) : w.frozen? ⟨b, k, none⟩ = false := Lib.frozen_of_heap h.heap k
theorem Bx.set {w : World} {b : Nat} {c d : Cl} (h : Bx w b c) (k : Nat) (v : Value) (hd : c.vals.setIfInBounds k v = d.vals) : Bx (w.setCell ⟨b, k, none⟩ v) b d := by
  constructor
  rw [setCell_eq_setRow w b k _ _ _ v h.heap, setRow_heap w b _ _ _ _ h.heap, hd]

def ptrK (b : Nat) (x : UInt8) : Value := if prgK x ≤ 4 then .pointer (some ⟨b, prgK x, none⟩) else .pointer none
set_option maxHeartbeats 1000000 in
theorem callNumber_any (b : Nat) (x : UInt8) (hx : isL x) (w : World) : Calls Tryd.prog 41 #[.pointer (some ⟨b, 0, none⟩), .int .i32 (x.toNat : Int)] w fun e w' => e = .returned (ptrK b x) ∧ w' = w := by
  rcases hx with rfl | rfl | rfl | rfl | rfl | rfl | rfl | rfl
  all_goals
    go_enter Tryd.func41, Tryd.ntmps41
    go_wp2_with fail
    go_ret
    exact ⟨rfl, rfl⟩

set_option maxHeartbeats 1000000 in
theorem setText_any (b : Nat) (x : UInt8) (hx : x = 80 ∨ x = 78 ∨ x = 110 ∨ x = 68) (c : Cl) (w : World) (hB : Bx w b c) : Calls Tryd.prog 52 #[.pointer (some ⟨b, 0, none⟩), .int .i32 (x.toNat : Int), .string ⟨#[]⟩] w fun e w' => e = .returned (.tuple #[]) ∧ w' = w.setCell ⟨b, prgK x, none⟩ (if prgK x = 8 then .slice none 0 0 else .string ⟨#[]⟩) := by
  obtain ⟨c0, c1, c2, c3, c4, c5, c6, c7, c8⟩ := hB.cells
  have f5 := hB.free 5
  have f6 := hB.free 6
  have f7 := hB.free 7
  have f8 := hB.free 8
  rcases hx with rfl | rfl | rfl | rfl
  all_goals
    go_enter Tryd.func52, Tryd.ntmps52
    go_wp2_with fail
    go_end0
    exact ⟨rfl, rfl⟩
end Go.Proofs.YtjkmdacgiebbfaaDoor
