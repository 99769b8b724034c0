/- What the listed variables give the walks. (Written by mkWL.py.) -/
import Derived.Test.YtjkmdacgiebbfaaDoorW6h
import Derived.Test.YtjkmdacgiebbfaaDoorRows
import Derived.Test.YtjkmdacgiebbfaaDoorCards
import Derived.Test.YtjkmdacgiebbfaaDoorTie
import Derived.Stop.LaidTwo
import Derived.LaidMore
import Derived.ProofKit
import Derived.OpenShut
import Derived.SizedLaws
import Derived.Stop.Joined
import Derived.SevenTiedAt
namespace Go.Proofs.YtjkmdacgiebbfaaDoor
open Go.ChangeShapes Go.WideShapes Go.ChangeAt Go.RowKit
set_option maxRecDepth 100000

abbrev laid6 {H : Type} : List (String × DataW H) := [("math/bits.deBruijn32tab", Rows.laid_math_bits_deBruijn32tab), ("math/bits.deBruijn64tab", Rows.laid_math_bits_deBruijn64tab), ("internal/strconv.uint64pow10", Rows.laid_internal_strconv_uint64pow10), ("annex/annexref21.callNames", Rows.laid_annex_annexref21_callNames), ("annex/annexref21.callForms", Rows.laid_annex_annexref21_callForms), ("annex/play.calls", Rows.laid_annex_play_calls)]
theorem gt_pow : (Tryd.prog.globals[3]?).map (·.type) = some 98 := by kernel_rfl
theorem gt_names : (Tryd.prog.globals[1]?).map (·.type) = some 87 := by kernel_rfl
theorem gt_forms : (Tryd.prog.globals[0]?).map (·.type) = some 87 := by kernel_rfl
theorem gt_calls : (Tryd.prog.globals[2]?).map (·.type) = some 94 := by kernel_rfl
theorem cellsS : Tryd.prog.cellsOf 9 = 1 := by kernel_rfl
theorem cellsI : Tryd.prog.cellsOf 3 = 1 := by kernel_rfl
theorem cellsU64 : Tryd.prog.cellsOf 73 = 1 := by kernel_rfl
theorem cellsPow : Tryd.prog.cellsOf 98 = 20 := by kernel_rfl
theorem cellsA11 : Tryd.prog.cellsOf 87 = 11 := by kernel_rfl
theorem cellsRow : Tryd.prog.cellsOf 76 = 3 := by kernel_rfl
theorem cellsA10 : Tryd.prog.cellsOf 94 = 30 := by kernel_rfl

theorem str_of {H : Type} {enc : TypeId × Value → H} {W : World} {fuel : Nat} {c : Value} {y : DataW H × List MemPlace} {l : List UInt8}
    (hf : DataW.trod enc Tryd.prog W 0 (fun _ => true) false fuel 9 [c] = some y) (hy : y.1 = .lit (.string l)) : c = .string ⟨l.toArray⟩ := by
  obtain ⟨s, e0, h0, _⟩ := DataW.trod_string Tryd.underlying9 hf
  simp at e0
  subst e0
  rw [h0] at hy
  simp at hy
  subst hy
  rfl
theorem int_of {H : Type} {enc : TypeId × Value → H} {W : World} {fuel : Nat} {c : Value} {y : DataW H × List MemPlace} {a : Int}
    (hf : DataW.trod enc Tryd.prog W 0 (fun _ => true) false fuel 3 [c] = some y) (hy : y.1 = .lit (.int .i64 a)) : c = .int .i64 a := by
  obtain ⟨X, e0, h0, _⟩ := DataW.trod_int Tryd.underlying3 hf
  simp at e0
  rw [h0] at hy
  simp at hy
  subst hy
  exact e0
theorem row_of {H : Type} {enc : TypeId × Value → H} {W : World} {fuel : Nat} {c c' c'' : Value} {y : DataW H × List MemPlace} {a : Int} {l m : List UInt8}
    (hf : DataW.trod enc Tryd.prog W 0 (fun _ => true) false fuel 76 [c, c', c''] = some y) (hy : y.1 = .agg [.lit (.int .i64 a), .lit (.string l), .lit (.string m)]) : c = .int .i64 a ∧ c' = .string ⟨l.toArray⟩ ∧ c'' = .string ⟨m.toArray⟩ := by
  obtain ⟨xs, n, _, hx, hl, hn, hfs⟩ := DataW.trod_struct Tryd.underlying76 hf
  match xs, hn with
  | [y0, y1, y2], _ =>
    have f0 : DataW.trod enc Tryd.prog W 0 (fun _ => true) false n 3 (([c, c', c''].drop 0).take (Tryd.prog.cellsOf 3)) = some y0 := hfs 0 _ rfl
    have f1 : DataW.trod enc Tryd.prog W 0 (fun _ => true) false n 9 (([c, c', c''].drop 1).take (Tryd.prog.cellsOf 9)) = some y1 := hfs 1 _ rfl
    have f2 : DataW.trod enc Tryd.prog W 0 (fun _ => true) false n 9 (([c, c', c''].drop 2).take (Tryd.prog.cellsOf 9)) = some y2 := hfs 2 _ rfl
    rw [cellsI] at f0
    rw [cellsS] at f1 f2
    rw [hx] at hy
    simp only [List.map_cons, List.map_nil, DataW.agg.injEq, List.cons.injEq] at hy
    exact ⟨int_of f0 hy.1, str_of f1 hy.2.1, str_of f2 hy.2.2.1⟩

theorem cells_strs {H : Type} {enc : TypeId × Value → H} {W : World} {fuel : Nat} {cs : List Value} {p : List MemPlace} {l : List (List UInt8)} (hl11 : l.length = 11)
    (hd : DataW.trod enc Tryd.prog W 0 (fun _ => true) false fuel 87 cs = some (.agg (l.map fun s => .lit (.string s)), p)) : cs = l.map fun s => .string ⟨s.toArray⟩ := by
  obtain ⟨xs, m, _, hx, hl, hn, hfs⟩ := DataW.trod_array Tryd.underlying87 hd
  rw [cellsA11] at hl
  simp only [cellsS] at hfs
  simp only [Prod.mk.injEq] at hx
  obtain ⟨hx, _⟩ := hx
  match xs, hn with
  | [y0, y1, y2, y3, y4, y5, y6, y7, y8, y9, y10], _ =>
    match cs, hl with
    | [c0, c1, c2, c3, c4, c5, c6, c7, c8, c9, c10], _ =>
      match l, hl11 with
      | [l0, l1, l2, l3, l4, l5, l6, l7, l8, l9, l10], _ =>
        simp only [List.map_cons, List.map_nil, DataW.agg.injEq, List.cons.injEq] at hx
        obtain ⟨x0, x1, x2, x3, x4, x5, x6, x7, x8, x9, x10, _⟩ := hx
        have k0 := str_of (c := c0) (hfs 0 (by decide)) x0.symm
        have k1 := str_of (c := c1) (hfs 1 (by decide)) x1.symm
        have k2 := str_of (c := c2) (hfs 2 (by decide)) x2.symm
        have k3 := str_of (c := c3) (hfs 3 (by decide)) x3.symm
        have k4 := str_of (c := c4) (hfs 4 (by decide)) x4.symm
        have k5 := str_of (c := c5) (hfs 5 (by decide)) x5.symm
        have k6 := str_of (c := c6) (hfs 6 (by decide)) x6.symm
        have k7 := str_of (c := c7) (hfs 7 (by decide)) x7.symm
        have k8 := str_of (c := c8) (hfs 8 (by decide)) x8.symm
        have k9 := str_of (c := c9) (hfs 9 (by decide)) x9.symm
        have k10 := str_of (c := c10) (hfs 10 (by decide)) x10.symm
        subst k0 k1 k2 k3 k4 k5 k6 k7 k8 k9 k10
        rfl

theorem gl_of_laid {W : World} (h : laidMetH Tryd.prog laid6 W) : Gl W := by
  rw [MakeChecks.laidMetH_plain _ _ _ (by kernel_rfl)] at h
  obtain ⟨ps, hl, hnd, hrows⟩ := h
  clear hnd hrows
  obtain ⟨g0, t0, cs0, f0, p0, q0, hg0, ht0, hv0, hd0, h1, _⟩ := hl
  obtain ⟨g1, t1, cs1, f1, p1, q1, hg1, ht1, hv1, hd1, h2, _⟩ := h1
  obtain ⟨g2, t2, cs2, f2, p2, q2, hg2, ht2, hv2, hd2, h3, _⟩ := h2
  obtain ⟨g3, t3, cs3, f3, p3, q3, hg3, ht3, hv3, hd3, h4, _⟩ := h3
  obtain ⟨g4, t4, cs4, f4, p4, q4, hg4, ht4, hv4, hd4, h5, _⟩ := h4
  obtain ⟨g5, t5, cs5, f5, p5, q5, hg5, ht5, hv5, hd5, _, _⟩ := h5
  clear hg0 ht0 hv0 hd0 hg1 ht1 hd1
  obtain rfl := Option.some.inj (gn_pow.symm.trans hg2)
  obtain rfl := Option.some.inj (gt_pow.symm.trans ht2)
  obtain rfl := Option.some.inj (gn_names.symm.trans hg3)
  obtain rfl := Option.some.inj (gt_names.symm.trans ht3)
  obtain rfl := Option.some.inj (gn_forms.symm.trans hg4)
  obtain rfl := Option.some.inj (gt_forms.symm.trans ht4)
  obtain rfl := Option.some.inj (gn_calls.symm.trans hg5)
  obtain rfl := Option.some.inj (gt_calls.symm.trans ht5)
  obtain ⟨l2⟩ := cs2
  obtain ⟨l3⟩ := cs3
  obtain ⟨l4⟩ := cs4
  obtain ⟨l5⟩ := cs5
  have e2 : l2 = Lib.pow10Tab.map fun z => Value.int .u64 z := Lib.cells_of_tab Tryd.underlying98 Tryd.underlying73 cellsU64 cellsPow (zs := Lib.pow10Tab) hd2
  have e3 := cells_strs (l := [[], [108, 111, 111, 107, 117, 112], [103, 101, 116, 97, 116, 116, 114], [114, 101, 97, 100], [119, 114, 105, 116, 101], [99, 114, 101, 97, 116, 101], [114, 101, 109, 111, 118, 101], [109, 107, 100, 105, 114], [114, 109, 100, 105, 114], [114, 101, 110, 97, 109, 101], [114, 101, 97, 100, 100, 105, 114]]) rfl hd3
  have e4 := cells_strs (l := [[], [112], [104], [104, 111, 108], [104, 111, 100], [104, 110], [104, 110], [104, 110], [104, 110], [104, 110, 103, 109], [104, 110, 108]]) rfl hd4
  subst e2 e3 e4
  have e5 : (⟨l5⟩ : Array Value) = callCells := by
    obtain ⟨xs, m, _, hx, hl, hn, hfs⟩ := DataW.trod_array Tryd.underlying94 hd5
    replace hl : l5.length = 30 := by rw [← cellsA10]; exact hl
    simp only [cellsRow] at hfs
    simp only [Prod.mk.injEq] at hx
    obtain ⟨hx, _⟩ := hx
    clear hd5 hv5 hd2 hd3 hd4 hv2 hv3 hv4
    match xs, hn with
    | [y0, y1, y2, y3, y4, y5, y6, y7, y8, y9], _ =>
      match l5, hl with
      | [c0, c1, c2, c3, c4, c5, c6, c7, c8, c9, c10, c11, c12, c13, c14, c15, c16, c17, c18, c19, c20, c21, c22, c23, c24, c25, c26, c27, c28, c29], _ =>
        simp only [Rows.laid_annex_play_calls, List.map_cons, List.map_nil, DataW.agg.injEq, List.cons.injEq] at hx
        obtain ⟨x0, x1, x2, x3, x4, x5, x6, x7, x8, x9, _⟩ := hx
        obtain ⟨u0, u1, u2⟩ := row_of (c := c0) (c' := c1) (c'' := c2) (hfs 0 (by decide)) x0.symm
        obtain ⟨u3, u4, u5⟩ := row_of (c := c3) (c' := c4) (c'' := c5) (hfs 1 (by decide)) x1.symm
        obtain ⟨u6, u7, u8⟩ := row_of (c := c6) (c' := c7) (c'' := c8) (hfs 2 (by decide)) x2.symm
        obtain ⟨u9, u10, u11⟩ := row_of (c := c9) (c' := c10) (c'' := c11) (hfs 3 (by decide)) x3.symm
        obtain ⟨u12, u13, u14⟩ := row_of (c := c12) (c' := c13) (c'' := c14) (hfs 4 (by decide)) x4.symm
        obtain ⟨u15, u16, u17⟩ := row_of (c := c15) (c' := c16) (c'' := c17) (hfs 5 (by decide)) x5.symm
        obtain ⟨u18, u19, u20⟩ := row_of (c := c18) (c' := c19) (c'' := c20) (hfs 6 (by decide)) x6.symm
        obtain ⟨u21, u22, u23⟩ := row_of (c := c21) (c' := c22) (c'' := c23) (hfs 7 (by decide)) x7.symm
        obtain ⟨u24, u25, u26⟩ := row_of (c := c24) (c' := c25) (c'' := c26) (hfs 8 (by decide)) x8.symm
        obtain ⟨u27, u28, u29⟩ := row_of (c := c27) (c' := c28) (c'' := c29) (hfs 9 (by decide)) x9.symm
        subst u0 u1 u2 u3 u4 u5 u6 u7 u8 u9 u10 u11 u12 u13 u14 u15 u16 u17 u18 u19 u20 u21 u22 u23 u24 u25 u26 u27 u28 u29
        rfl
  rw [e5] at hv5
  have hg64 : Tryd.prog.globalNamed "math/bits.deBruijn64tab" = some 5 := by kernel_rfl
  obtain ⟨ty, fr, hh⟩ := var_heap hg64 hv1
  exact ⟨hv2, hv5, hv3, hv4, (Array.getElem?_eq_some_iff.1 hh).1⟩

theorem own : ownKnob Tryd.prog.godebug = none := by kernel_rfl
theorem laidOut : laidOutB Tryd.prog = true := by kernel_rfl
theorem door_met (os : Os) (args : Array Value) : laidMetH Tryd.prog laid6 ((World.doorLaid Tryd.prog 400 os).forCall (fun _ _ => 0) ⟨#[], args, []⟩).memory :=
  laidMetH_of_parts3 (fuel := 8) (laidMet_of_run' 8 (by kernel_rfl) (by kernel_rfl)) (by kernel_rfl) (by kernel_rfl)
end Go.Proofs.YtjkmdacgiebbfaaDoor
