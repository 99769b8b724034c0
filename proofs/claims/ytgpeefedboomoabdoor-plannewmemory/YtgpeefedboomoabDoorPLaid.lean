/- What the listed variables give the walks: the table of bounds. -/
import Derived.Test.YtgpeefedboomoabDoorRows
import Derived.Test.YtgpeefedboomoabDoorP1
import Derived.Stop.LaidTwo
import Derived.LaidMore
import Derived.ProofKit
import Derived.OpenShut
namespace Go.Proofs.YtgpeefedboomoabDoor
open Go.ChangeShapes Go.WideShapes Go.ChangeAt Go.RowKit
set_option maxRecDepth 100000

abbrev laid6 {H : Type} : List (String × DataW H) := [("annex/bits.errShort", Rows.laid_annex_bits_errShort), ("annex/bits.errWide", Rows.laid_annex_bits_errWide), ("annex/bits.errFlag", Rows.laid_annex_bits_errFlag), ("annex/bits.errLong", Rows.laid_annex_bits_errLong), ("annex/bits.errPad", Rows.laid_annex_bits_errPad), ("annex/plan.bounds", Rows.laid_annex_plan_bounds)]

theorem gN : Tryd.prog.globalNamed "annex/plan.bounds" = some 0 := by kernel_rfl
theorem gT : (Tryd.prog.globals[0]?).map (·.type) = some 88 := by kernel_rfl
theorem cellsP : Tryd.prog.cellsOf 87 = 2 := by kernel_rfl
theorem cellsA : Tryd.prog.cellsOf 88 = 16 := by kernel_rfl
theorem cells3 : Tryd.prog.cellsOf 3 = 1 := by kernel_rfl

theorem pair_of {H : Type} {enc : TypeId × Value → H} {W : World} {fuel : Nat} {c c' : Value} {y : DataW H × List MemPlace} {a b : Int}
    (hf : DataW.trod enc Tryd.prog W 0 (fun _ => true) false fuel 87 [c, c'] = some y) (hy : y.1 = .agg [.lit (.int .i64 a), .lit (.int .i64 b)]) : c = .int .i64 a ∧ c' = .int .i64 b := by
  obtain ⟨xs, n, _, hx, hl, hn, hfs⟩ := DataW.trod_struct Tryd.underlying87 hf
  match xs, hn with
  | [y0, y1], _ =>
    have f0 : DataW.trod enc Tryd.prog W 0 (fun _ => true) false n 3 (([c, c'].drop 0).take (Tryd.prog.cellsOf 3)) = some y0 := hfs 0 _ rfl
    have f1 : DataW.trod enc Tryd.prog W 0 (fun _ => true) false n 3 (([c, c'].drop 1).take (Tryd.prog.cellsOf 3)) = some y1 := hfs 1 _ rfl
    rw [cells3] at f0 f1
    obtain ⟨X, e0, h0, _⟩ := DataW.trod_int Tryd.underlying3 f0
    obtain ⟨K, e1, h1, _⟩ := DataW.trod_int Tryd.underlying3 f1
    subst hx
    simp at e0 e1 hy
    obtain ⟨hy0, hy1⟩ := hy
    rw [h0] at hy0
    rw [h1] at hy1
    simp at hy0 hy1
    subst e0 e1 hy0 hy1
    exact ⟨rfl, rfl⟩

theorem bds_of_laid {W : World} (h : laidMetH Tryd.prog laid6 W) : Bds W := by
  rw [MakeChecks.laidMetH_plain _ _ _ (by kernel_rfl)] at h
  obtain ⟨ps, ⟨g0, t0, cs0, f0, p0, q0, hg0, ht0, hv0, hd0, ⟨g1, t1, cs1, f1, p1, q1, hg1, ht1, hv1, hd1, ⟨g2, t2, cs2, f2, p2, q2, hg2, ht2, hv2, hd2, ⟨g3, t3, cs3, f3, p3, q3, hg3, ht3, hv3, hd3, ⟨g4, t4, cs4, f4, p4, q4, hg4, ht4, hv4, hd4, ⟨g5, t5, cs5, f5, p5, q5, hg5, ht5, hv5, hd5, _, e5⟩, e4⟩, e3⟩, e2⟩, e1⟩, e0⟩, hnd, hrows⟩ := h
  clear hnd hrows e0 e1 e2 e3 e4 hd0 hd1 hd2 hd3 hd4 hv0 hv1 hv2 hv3 hv4 ht0 ht1 ht2 ht3 ht4 hg0 hg1 hg2 hg3 hg4
  obtain rfl := Option.some.inj (gN.symm.trans hg5)
  obtain rfl := Option.some.inj (gT.symm.trans ht5)
  obtain ⟨l5⟩ := cs5
  obtain ⟨xs, m, _, hx, hl, hn, hfs⟩ := DataW.trod_array Tryd.underlying88 hd5
  rw [cellsA] at hl
  simp only [cellsP] at hfs
  have hc := fun i => World.var?_cell hg5 hv5 i
  simp only [Prod.mk.injEq] at hx
  obtain ⟨hx, _⟩ := hx
  match xs, hn with
  | [y0, y1, y2, y3, y4, y5, y6, y7], _ =>
    match l5, hl with
    | [c0, c1, c2, c3, c4, c5, c6, c7, c8, c9, c10, c11, c12, c13, c14, c15], _ =>
      simp only [Rows.laid_annex_plan_bounds, List.map_cons, List.map_nil, DataW.agg.injEq, List.cons.injEq] at hx
      obtain ⟨x0, x1, x2, x3, x4, x5, x6, x7, _⟩ := hx
      have k0 := pair_of (c := c0) (c' := c1) (hfs 0 (by decide)) x0.symm
      have k1 := pair_of (c := c2) (c' := c3) (hfs 1 (by decide)) x1.symm
      have k2 := pair_of (c := c4) (c' := c5) (hfs 2 (by decide)) x2.symm
      have k3 := pair_of (c := c6) (c' := c7) (hfs 3 (by decide)) x3.symm
      have k4 := pair_of (c := c8) (c' := c9) (hfs 4 (by decide)) x4.symm
      have k5 := pair_of (c := c10) (c' := c11) (hfs 5 (by decide)) x5.symm
      have k6 := pair_of (c := c12) (c' := c13) (hfs 6 (by decide)) x6.symm
      have k7 := pair_of (c := c14) (c' := c15) (hfs 7 (by decide)) x7.symm
      exact ⟨(hc 0).trans (by rw [k0.1]; rfl), (hc 1).trans (by rw [k0.2]; rfl), (hc 2).trans (by rw [k1.1]; rfl), (hc 3).trans (by rw [k1.2]; rfl), (hc 4).trans (by rw [k2.1]; rfl), (hc 5).trans (by rw [k2.2]; rfl), (hc 6).trans (by rw [k3.1]; rfl), (hc 7).trans (by rw [k3.2]; rfl), (hc 8).trans (by rw [k4.1]; rfl), (hc 9).trans (by rw [k4.2]; rfl), (hc 10).trans (by rw [k5.1]; rfl), (hc 11).trans (by rw [k5.2]; rfl), (hc 12).trans (by rw [k6.1]; rfl), (hc 13).trans (by rw [k6.2]; rfl), (hc 14).trans (by rw [k7.1]; rfl), (hc 15).trans (by rw [k7.2]; rfl)⟩
end Go.Proofs.YtgpeefedboomoabDoor
