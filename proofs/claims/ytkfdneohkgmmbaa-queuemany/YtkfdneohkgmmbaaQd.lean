/- Cells written one behind the other into a row. -/
import Derived.Test.YtkfdneohkgmmbaaQ1m
import Derived.Lib.SliceRun
namespace Go.Proofs.Ytkfdneohkgmmbaa
open Go.RowKit
set_option maxRecDepth 100000

theorem setCells_row {g : Nat} {T : TypeId} : ∀ (vs : List Value) (o : Nat) (w : World) (cur : Array Value), w.heap[g]? = some (.cells cur T (0, 0)) → o + vs.length ≤ cur.size → ∃ cur', (w.setCells g o vs).heap[g]? = some (.cells cur' T (0, 0)) ∧ cur'.size = cur.size ∧ (∀ j, j < o → cur'[j]? = cur[j]?) ∧ ∀ j, j < vs.length → cur'[o + j]? = vs[j]?
  | [], o, w, cur, h, _ => ⟨cur, h, rfl, fun _ _ => rfl, fun j hj => (by simp at hj)⟩
  | v :: vs, o, w, cur, h, hl => by
    simp at hl
    obtain ⟨cur', h1, h2, h3, h4⟩ := setCells_row vs (o + 1) (w.setCell ⟨g, o, none⟩ v) _ (heap_setCell_same w g o _ _ v h) (by simp; omega)
    refine ⟨cur', h1, by rw [h2]; simp, fun j hj => ?_, fun j hj => ?_⟩
    · rw [h3 j (by omega), Array.getElem?_setIfInBounds_ne (by omega)]
    · cases j with
      | zero => rw [Nat.add_zero, h3 o (by omega), Array.getElem?_setIfInBounds_self_of_lt (by omega)]; rfl
      | succ j => rw [show o + (j + 1) = o + 1 + j by omega, h4 j (by simpa using hj)]; rfl
theorem Turns.setCells (g : Nat) : ∀ (vs : List Value) (o : Nat) (w : World), Turns (fun i => i = g) w (w.setCells g o vs)
  | [], _, w => Turns.refl _ w
  | v :: vs, o, w => (Turns.cell w g o v).trans (Turns.setCells g vs (o + 1) (w.setCell ⟨g, o, none⟩ v)) (fun _ _ h => h)
/-- The first element is struck: the others move up, the last place is written over. -/
theorem own_shift {w : World} {e s k cap g : Nat} {x xs zs : List Value} (h : w.ownsRow 0 e s (.slice (some ⟨g, 0, none⟩) (k + 1) cap) (k + 1) (x ++ xs)) (hx : x.length = s) (hz : zs.length = s) (m : Nat) :
    ((((w.drewN m)).setCells g 0 xs).setCells g (k * s) zs).ownsRow 0 e s (.slice (some ⟨g, 0, none⟩) k cap) k xs ∧ Turns (fun i => i = g) w (((w.drewN m).setCells g 0 xs).setCells g (k * s) zs) := by
  have hl := h.1
  rw [List.length_append, hx, Nat.add_mul, Nat.one_mul] at hl
  have hxs : xs.length = k * s := by omega
  rcases h.2 with ⟨q, _⟩ | ⟨g', cap', cur, q, _, hg, h3, h4, h5, h6⟩
  · cases q
  · cases q
    have hks : (k + 1) * s ≤ cap * s := Nat.mul_le_mul_right _ h3
    rw [Nat.add_mul, Nat.one_mul] at hks
    obtain ⟨c1, e1, e2, e3, e4⟩ := setCells_row xs 0 (w.drewN m) cur hg (by omega)
    obtain ⟨c2, f1, f2, f3, f4⟩ := setCells_row zs (k * s) ((w.drewN m).setCells g 0 xs) c1 e1 (by omega)
    refine ⟨⟨hxs, Or.inr ⟨g, cap, c2, rfl, Nat.zero_le _, f1, by omega, h4, by omega, ?_⟩⟩, ((Turns.drewN _ w m).trans (Turns.setCells g xs 0 _) (fun _ _ h => h)).trans (Turns.setCells g zs _ _) (fun _ _ h => h)⟩
    apply List.ext_getElem?
    intro j
    rw [List.getElem?_take]
    split
    · rw [Array.getElem?_toList, f3 j (by assumption)]
      have := e4 j (by omega)
      rwa [Nat.zero_add] at this
    · rw [List.getElem?_eq_none (by omega)]
theorem run_append_none {P : Program} (w : World) (t e ty : TypeId) (i : TypeInfo) (ht : P.underlying t = some (.slice e)) (hi : P.info? e = some i) (a : Addr) (n cap : Nat) (x : Option Addr) (c : Nat) (h : n ≤ cap) :
    (Builtin.append_ #[t, t] ty #[.slice (some a) n cap, .slice x 0 c]).run P w = .ok (.slice (some a) n cap) w := by
  have hl : ∀ b : Addr, (loadCells b 0).run P w = .ok #[] w := fun _ => rfl
  cases x with
  | none => simp [Builtin.append_, run_underlying ht, sizeOf, typeInfo, hi, Builtin.lenOf, Builtin.firstCells, h, storeCells]
  | some b => simp [Builtin.append_, run_underlying ht, sizeOf, typeInfo, hi, Builtin.lenOf, Builtin.firstCells, h, hl, storeCells]
theorem step_append_none {P : Program} {ops : Array Oper} {o : Oper} {a : Act} {w : World} {C : Act → World → Prop} {Q : Exit → Act → World → Prop} {E : Prop} (hgd : o.guard = none) (s x : Operand) (t e : TypeId) (i : TypeInfo) (ht : P.underlying t = some (.slice e)) (hi : P.info? e = some i) (ho : o.op = .call { callee := .builtin .append, args := #[s, x], argTypes := #[t, t] })
    (ad : Addr) (n cap : Nat) (xo : Option Addr) (c : Nat) (hs : a.eval s = .slice (some ad) n cap) (hx : a.eval x = .slice xo 0 c) (h : n ≤ cap) (hK : C (a.put o.dst (.slice (some ad) n cap)) w) :
    if Region.wanted o (yielded ops a.tmps) = true then Oper.wp P o a w C Q else E := by
  have hw : Region.wanted o (yielded ops a.tmps) = true := by simp [Region.wanted, hgd]
  rw [if_pos hw]
  have hrun := run_append_none w t e o.type i ht hi ad n cap xo c h
  unfold Oper.wp execOp
  simp only [ho, resolve, invoke, builtin, Sem.run_bind, Sem.run_pure, Result.andThen_ok, List.map_toArray, List.map_cons, List.map_nil, hs, hx, hrun]
  exact hK
theorem run_clear_one {P : Program} (w : World) (t e ty : TypeId) (z : Value) (zs : List Value) (ht : P.underlying t = some (.slice e)) (hv : ∀ w, (zeroValue e).run P w = .ok z w) (hz : (Builtin.zeroCells z.cells 1).toList = zs) (h1 : ∀ v ∈ zs, v.oneCell' = true) (b o c : Nat)
    (hc : ∀ j, j < zs.length → (w.cell? ⟨b, o + j, none⟩).isSome = true) (hf : ∀ j, j < zs.length → w.frozen? ⟨b, o + j, none⟩ = false) :
    (Builtin.clear_ #[t] ty #[.slice (some ⟨b, o, none⟩) 1 c]).run P w = .ok (.tuple #[]) (w.setCells b o zs) := by
  have hst := run_storeCells_cells (P := P) b o zs 0 w (by simpa using hc) (by simpa using hf) h1
  simp only [Nat.add_zero] at hst
  simp [Builtin.clear_, run_underlying ht, hv, hz, hst]
/-- All cells of a row are there, and may be written. -/
theorem own_there {w : World} {e s n cap g : Nat} {xs : List Value} (h : w.ownsRow 0 e s (.slice (some ⟨g, 0, none⟩) n cap) n xs) (j : Nat) (hj : j < cap * s) : (w.cell? ⟨g, j, none⟩).isSome = true ∧ w.frozen? ⟨g, j, none⟩ = false := by
  rcases h.2 with ⟨q, _⟩ | ⟨g', cap', cur, q, _, hg, h3, h4, h5, h6⟩
  · cases q
  · cases q
    refine ⟨?_, by simp [World.frozen?, hg]⟩
    simp only [World.cell?, hg]
    rw [Array.getElem?_eq_getElem (by omega)]
    rfl
end Go.Proofs.Ytkfdneohkgmmbaa
