/- A list of steps that came in; which of the two queues. -/
import Derived.Test.YtkfdneohkgmmbaaP1
namespace Go.Proofs.Ytkfdneohkgmmbaa
open Go.RowKit
set_option maxRecDepth 100000

/-- A step that came in. -/
structure Oi where
  k : Int
  w : Int
  a : Int
  b : Int
def Oi.cells (e : Oi) : List Value := [.int .i64 e.k, .int .i64 e.w, .int .i64 e.a, .int .i64 e.b]
structure OiIn (e : Oi) : Prop where
  k : -9223372036854775808 ≤ e.k ∧ e.k ≤ 9223372036854775807
  w : -9223372036854775808 ≤ e.w ∧ e.w ≤ 9223372036854775807
  a : -9223372036854775808 ≤ e.a ∧ e.a ≤ 9223372036854775807
  b : -9223372036854775808 ≤ e.b ∧ e.b ≤ 9223372036854775807
structure OLies (w : World) (ao : Option Addr) (n : Nat) (es : List Oi) : Prop where
  hlen : es.length = n
  hcells : ∀ (j : Nat) e, es[j]? = some e → OiIn e ∧ ∃ g p, ao = some ⟨g, p, none⟩ ∧ ∀ t v, e.cells[t]? = some v → w.cell? ⟨g, p + j * 4 + t, none⟩ = some v
theorem OLies.below {B : Nat} {w w' : World} {ao : Option Addr} {n : Nat} {es : List Oi} (h : OLies w ao n es) (hb : Below B w w') (hB : w.heap.size ≤ B) : OLies w' ao n es :=
  ⟨h.hlen, fun j e he => by
    obtain ⟨h1, g, p, h2, h3⟩ := h.hcells j e he
    exact ⟨h1, g, p, h2, fun t v hv => (hb.cell (Nat.lt_of_lt_of_le (World.block_lt_of_cell? w _ (h3 t v hv)) hB)).trans (h3 t v hv)⟩⟩
theorem OLies.at {w : World} {ao : Option Addr} {n : Nat} {es : List Oi} (h : OLies w ao n es) (j : Nat) (hj : j < n) : ∃ g p K W A B, ao = some ⟨g, p, none⟩ ∧ OiIn ⟨K, W, A, B⟩ ∧ w.cell? ⟨g, p + j * 4, none⟩ = some (.int .i64 K) ∧ w.cell? ⟨g, p + j * 4 + 1, none⟩ = some (.int .i64 W) ∧ w.cell? ⟨g, p + j * 4 + 2, none⟩ = some (.int .i64 A) ∧ w.cell? ⟨g, p + j * 4 + 3, none⟩ = some (.int .i64 B) := by
  have hl : j < es.length := by rw [h.hlen]; exact hj
  obtain ⟨h1, g, p, h2, h3⟩ := h.hcells j es[j] (List.getElem?_eq_getElem hl)
  exact ⟨g, p, es[j].k, es[j].w, es[j].a, es[j].b, h2, h1, h3 0 _ rfl, h3 1 _ rfl, h3 2 _ rfl, h3 3 _ rfl⟩
theorem and_one (x : Int) : bits .and .i64 x 1 = 0 ∨ bits .and .i64 x 1 = 1 := by
  have e : bits .and .i64 x 1 = IntKind.i64.wrap ((BitVec.ofInt 64 x &&& BitVec.ofInt 64 1).toNat : Int) := rfl
  have h1 : (BitVec.ofInt 64 (1 : Int)).toNat = 1 := by decide
  rw [e, BitVec.toNat_and, h1, Nat.and_one_is_mod]
  rcases Nat.mod_two_eq_zero_or_one (BitVec.ofInt 64 x).toNat with q | q <;> rw [q]
  · left; rfl
  · right; rfl
end Go.Proofs.Ytkfdneohkgmmbaa
