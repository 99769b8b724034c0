/- What the listed variables give the walks: the package's five errors, each a pointer of its own. -/
import Derived.Test.YtjpaooejkbkliabDoorRows
import Derived.Test.YtjpaooejkbkliabDoorRdr
import Derived.Stop.LaidTwo
import Derived.LaidMore
import Derived.ProofKit
namespace Go.Proofs.YtjpaooejkbkliabDoor
open Go.ChangeShapes Go.WideShapes Go.ChangeAt Go.RowKit
set_option maxRecDepth 100000

abbrev laid5 {H : Type} : List (String × DataW H) := [("annex/bits.errShort", Rows.laid_annex_bits_errShort), ("annex/bits.errWide", Rows.laid_annex_bits_errWide), ("annex/bits.errFlag", Rows.laid_annex_bits_errFlag), ("annex/bits.errLong", Rows.laid_annex_bits_errLong), ("annex/bits.errPad", Rows.laid_annex_bits_errPad)]

theorem star : "*" ++ "errors.errorString" = "*errors.errorString" := by decide
theorem row96 (u : TypeId) (h : Tryd.prog.typeName? 3 u = some "*errors.errorString") : u = 92 :=
  typeName_ptr_named (nm := "errors.errorString") (by rw [star]; kernel_rfl) (by kernel_rfl) (by decide) u (by rw [star]; exact h)
theorem cells122 : Tryd.prog.cellsOf 117 = 1 := by kernel_rfl
theorem cells9 : Tryd.prog.cellsOf 9 = 1 := by kernel_rfl
theorem gN0 : Tryd.prog.globalNamed "annex/bits.errShort" = some 4 := by kernel_rfl
theorem gT0 : (Tryd.prog.globals[4]?).map (·.type) = some 69 := by kernel_rfl
theorem gN1 : Tryd.prog.globalNamed "annex/bits.errWide" = some 1 := by kernel_rfl
theorem gT1 : (Tryd.prog.globals[1]?).map (·.type) = some 69 := by kernel_rfl
theorem gN2 : Tryd.prog.globalNamed "annex/bits.errFlag" = some 0 := by kernel_rfl
theorem gT2 : (Tryd.prog.globals[0]?).map (·.type) = some 69 := by kernel_rfl
theorem gN3 : Tryd.prog.globalNamed "annex/bits.errLong" = some 2 := by kernel_rfl
theorem gT3 : (Tryd.prog.globals[2]?).map (·.type) = some 69 := by kernel_rfl
theorem gN4 : Tryd.prog.globalNamed "annex/bits.errPad" = some 3 := by kernel_rfl
theorem gT4 : (Tryd.prog.globals[3]?).map (·.type) = some 69 := by kernel_rfl

/-- The five errors' addresses, by the variables' numbers. -/
def erOf (a0 a1 a2 a3 a4 : Addr) : Nat → Addr
  | 4 => a0 | 1 => a1 | 0 => a2 | 2 => a3 | _ => a4

theorem errs_of_laid {W : World} (h : laidMetH Tryd.prog laid5 W) : ∃ er, Errs W er := by
  rw [MakeChecks.laidMetH_plain _ _ _ (by kernel_rfl)] at h
  obtain ⟨ps, ⟨g0, t0, cs0, f0, p0, q0, hg0, ht0, hv0, hd0, ⟨g1, t1, cs1, f1, p1, q1, hg1, ht1, hv1, hd1, ⟨g2, t2, cs2, f2, p2, q2, hg2, ht2, hv2, hd2, ⟨g3, t3, cs3, f3, p3, q3, hg3, ht3, hv3, hd3, ⟨g4, t4, cs4, f4, p4, q4, hg4, ht4, hv4, hd4, _, e4⟩, e3⟩, e2⟩, e1⟩, e0⟩, hnd, hrows⟩ := h
  obtain rfl := Option.some.inj (gN0.symm.trans hg0)
  obtain rfl := Option.some.inj (gT0.symm.trans ht0)
  obtain rfl := Option.some.inj (gN1.symm.trans hg1)
  obtain rfl := Option.some.inj (gT1.symm.trans ht1)
  obtain rfl := Option.some.inj (gN2.symm.trans hg2)
  obtain rfl := Option.some.inj (gT2.symm.trans ht2)
  obtain rfl := Option.some.inj (gN3.symm.trans hg3)
  obtain rfl := Option.some.inj (gT3.symm.trans ht3)
  obtain rfl := Option.some.inj (gN4.symm.trans hg4)
  obtain rfl := Option.some.inj (gT4.symm.trans ht4)
  subst e4; subst e3; subst e2; subst e1; subst e0
  obtain ⟨l0⟩ := cs0
  obtain ⟨l1⟩ := cs1
  obtain ⟨l2⟩ := cs2
  obtain ⟨l3⟩ := cs3
  obtain ⟨l4⟩ := cs4
  have ok0 : ∀ u v, l0 = [.iface u v] → Value.okWide Tryd.prog W .any 0 u v := fun u v e => by
    subst e
    exact (hrows 4 0 (by simp [MemPlace.row])).2 u v (by simpa using World.var?_cell hg0 hv0 0)
  have ok1 : ∀ u v, l1 = [.iface u v] → Value.okWide Tryd.prog W .any 0 u v := fun u v e => by
    subst e
    exact (hrows 1 0 (by simp [MemPlace.row])).2 u v (by simpa using World.var?_cell hg1 hv1 0)
  have ok2 : ∀ u v, l2 = [.iface u v] → Value.okWide Tryd.prog W .any 0 u v := fun u v e => by
    subst e
    exact (hrows 0 0 (by simp [MemPlace.row])).2 u v (by simpa using World.var?_cell hg2 hv2 0)
  have ok3 : ∀ u v, l3 = [.iface u v] → Value.okWide Tryd.prog W .any 0 u v := fun u v e => by
    subst e
    exact (hrows 2 0 (by simp [MemPlace.row])).2 u v (by simpa using World.var?_cell hg3 hv3 0)
  have ok4 : ∀ u v, l4 = [.iface u v] → Value.okWide Tryd.prog W .any 0 u v := fun u v e => by
    subst e
    exact (hrows 3 0 (by simp [MemPlace.row])).2 u v (by simpa using World.var?_cell hg4 hv4 0)
  obtain ⟨a0, s0, rfl, hc0, _, _, rfl⟩ := errorString_of_trod Tryd.underlying69 row96 Tryd.underlying92 Tryd.underlying117 rfl rfl Tryd.underlying9 cells122 cells9 hd0 ok0
  obtain ⟨a1, s1, rfl, hc1, _, _, rfl⟩ := errorString_of_trod Tryd.underlying69 row96 Tryd.underlying92 Tryd.underlying117 rfl rfl Tryd.underlying9 cells122 cells9 hd1 ok1
  obtain ⟨a2, s2, rfl, hc2, _, _, rfl⟩ := errorString_of_trod Tryd.underlying69 row96 Tryd.underlying92 Tryd.underlying117 rfl rfl Tryd.underlying9 cells122 cells9 hd2 ok2
  obtain ⟨a3, s3, rfl, hc3, _, _, rfl⟩ := errorString_of_trod Tryd.underlying69 row96 Tryd.underlying92 Tryd.underlying117 rfl rfl Tryd.underlying9 cells122 cells9 hd3 ok3
  obtain ⟨a4, s4, rfl, hc4, _, _, rfl⟩ := errorString_of_trod Tryd.underlying69 row96 Tryd.underlying92 Tryd.underlying117 rfl rfl Tryd.underlying9 cells122 cells9 hd4 ok4
  obtain ⟨c0, u0, hb0⟩ := (hrows a0.block a0.off (by simp [MemPlace.row])).1
  obtain ⟨c1, u1, hb1⟩ := (hrows a1.block a1.off (by simp [MemPlace.row])).1
  obtain ⟨c2, u2, hb2⟩ := (hrows a2.block a2.off (by simp [MemPlace.row])).1
  obtain ⟨c3, u3, hb3⟩ := (hrows a3.block a3.off (by simp [MemPlace.row])).1
  obtain ⟨c4, u4, hb4⟩ := (hrows a4.block a4.off (by simp [MemPlace.row])).1
  have w0 := by simpa using World.var?_cell hg0 hv0 0
  have w1 := by simpa using World.var?_cell hg1 hv1 0
  have w2 := by simpa using World.var?_cell hg2 hv2 0
  have w3 := by simpa using World.var?_cell hg3 hv3 0
  have w4 := by simpa using World.var?_cell hg4 hv4 0
  have n01 : a0 ≠ a1 := by rintro rfl; simp [MemPlace.row] at hnd
  have n02 : a0 ≠ a2 := by rintro rfl; simp [MemPlace.row] at hnd
  have n03 : a0 ≠ a3 := by rintro rfl; simp [MemPlace.row] at hnd
  have n04 : a0 ≠ a4 := by rintro rfl; simp [MemPlace.row] at hnd
  have n12 : a1 ≠ a2 := by rintro rfl; simp [MemPlace.row] at hnd
  have n13 : a1 ≠ a3 := by rintro rfl; simp [MemPlace.row] at hnd
  have n14 : a1 ≠ a4 := by rintro rfl; simp [MemPlace.row] at hnd
  have n23 : a2 ≠ a3 := by rintro rfl; simp [MemPlace.row] at hnd
  have n24 : a2 ≠ a4 := by rintro rfl; simp [MemPlace.row] at hnd
  have n34 : a3 ≠ a4 := by rintro rfl; simp [MemPlace.row] at hnd
  refine ⟨erOf a0 a1 a2 a3 a4, ?_, ?_, ?_⟩
  · intro i hi
    match i, hi with
    | 0, _ => exact w2
    | 1, _ => exact w1
    | 2, _ => exact w3
    | 3, _ => exact w4
    | 4, _ => exact w0
  · intro i hi
    match i, hi with
    | 0, _ => exact ⟨_, _, hb2⟩
    | 1, _ => exact ⟨_, _, hb1⟩
    | 2, _ => exact ⟨_, _, hb3⟩
    | 3, _ => exact ⟨_, _, hb4⟩
    | 4, _ => exact ⟨_, _, hb0⟩
  · intro i j hi hj hne
    match i, hi, j, hj with
    | 0, _, 0, _ => exact absurd rfl hne
    | 0, _, 1, _ => exact n12.symm
    | 0, _, 2, _ => exact n23
    | 0, _, 3, _ => exact n24
    | 0, _, 4, _ => exact n02.symm
    | 1, _, 0, _ => exact n12
    | 1, _, 1, _ => exact absurd rfl hne
    | 1, _, 2, _ => exact n13
    | 1, _, 3, _ => exact n14
    | 1, _, 4, _ => exact n01.symm
    | 2, _, 0, _ => exact n23.symm
    | 2, _, 1, _ => exact n13.symm
    | 2, _, 2, _ => exact absurd rfl hne
    | 2, _, 3, _ => exact n34
    | 2, _, 4, _ => exact n03.symm
    | 3, _, 0, _ => exact n24.symm
    | 3, _, 1, _ => exact n14.symm
    | 3, _, 2, _ => exact n34.symm
    | 3, _, 3, _ => exact absurd rfl hne
    | 3, _, 4, _ => exact n04.symm
    | 4, _, 0, _ => exact n02
    | 4, _, 1, _ => exact n01
    | 4, _, 2, _ => exact n03
    | 4, _, 3, _ => exact n04
    | 4, _, 4, _ => exact absurd rfl hne
end Go.Proofs.YtjpaooejkbkliabDoor
