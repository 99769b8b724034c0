/- What the listed variable gives the walks: the table of rows; params, estimates and lists of numbers that came in, opened once; the witness's world. -/
import Derived.Test.YtjaheoccofcklabDoorRows
import Derived.Test.YtjaheoccofcklabDoorCards
import Derived.Test.YtjaheoccofcklabDoorTie
import Derived.Test.YtjaheoccofcklabDoorBase
import Derived.Stop.LaidTwo
import Derived.LaidMore
import Derived.ProofKit
import Derived.OpenShut
import Derived.SizedLaws
import Derived.Stop.Joined
import Derived.SevenTiedAt
import Derived.Deep.DeepHandedRow
import Derived.Deep.DeepWitnessRowRef
namespace Go.Proofs.YtjaheoccofcklabDoor
open Go.ChangeShapes Go.WideShapes Go.ChangeAt Go.RowKit
set_option maxRecDepth 100000

abbrev laid1 {H : Type} : List (String × DataW H) := [("annex/rto.rows", Rows.laid_annex_rto_rows)]
theorem gN : Tryd.prog.globalNamed "annex/rto.rows" = some 0 := by kernel_rfl
theorem gT : (Tryd.prog.globals[0]?).map (·.type) = some 46 := by kernel_rfl
theorem cellsP : Tryd.prog.cellsOf 41 = 2 := by kernel_rfl
theorem cellsA : Tryd.prog.cellsOf 46 = 8 := by kernel_rfl
theorem cells3 : Tryd.prog.cellsOf 3 = 1 := by kernel_rfl
theorem cells4 : Tryd.prog.cellsOf 4 = 1 := by kernel_rfl
theorem bytes3 : Tryd.prog.bytesOf 3 = 8 := by kernel_rfl
theorem cellsPa : Tryd.prog.cellsOf 23 = 3 := by kernel_rfl
theorem cellsEs : Tryd.prog.cellsOf 25 = 5 := by kernel_rfl

theorem row_of {H : Type} {enc : TypeId × Value → H} {W : World} {fuel : Nat} {c c' : Value} {y : DataW H × List MemPlace} {a b : Int}
    (hf : DataW.trod enc Tryd.prog W 0 (fun _ => true) false fuel 41 [c, c'] = some y) (hy : y.1 = .agg [.lit (.int .i64 a), .lit (.int .i64 b)]) : c = .int .i64 a ∧ c' = .int .i64 b := by
  obtain ⟨xs, n, _, hx, hl, hn, hfs⟩ := DataW.trod_struct Tryd.underlying41 hf
  match xs, hn with
  | [y0, y1], _ =>
    have f0 : DataW.trod enc Tryd.prog W 0 (fun _ => true) false n 3 (([c, c'].drop 0).take (Tryd.prog.cellsOf 3)) = some y0 := hfs 0 _ rfl
    have f1 : DataW.trod enc Tryd.prog W 0 (fun _ => true) false n 3 (([c, c'].drop 1).take (Tryd.prog.cellsOf 3)) = some y1 := hfs 1 _ rfl
    rw [cells3] at f0 f1
    obtain ⟨X, e0, h0, _⟩ := DataW.trod_int Tryd.underlying3 f0
    obtain ⟨K, e1, h1, _⟩ := DataW.trod_int Tryd.underlying3 f1
    subst hx
    simp at e0 e1 hy
    obtain ⟨hy0, hy1⟩ := hy
    rw [h0] at hy0
    rw [h1] at hy1
    simp at hy0 hy1
    subst e0 e1 hy0 hy1
    exact ⟨rfl, rfl⟩

theorem rws_of_laid {W : World} (h : laidMetH Tryd.prog laid1 W) : Rws W := by
  rw [MakeChecks.laidMetH_plain _ _ _ (by kernel_rfl)] at h
  obtain ⟨ps, ⟨g5, t5, cs5, f5, p5, q5, hg5, ht5, hv5, hd5, _, e5⟩, hnd, hrows⟩ := h
  clear hnd hrows
  obtain rfl := Option.some.inj (gN.symm.trans hg5)
  obtain rfl := Option.some.inj (gT.symm.trans ht5)
  obtain ⟨l5⟩ := cs5
  obtain ⟨xs, m, _, hx, hl, hn, hfs⟩ := DataW.trod_array Tryd.underlying46 hd5
  rw [cellsA] at hl
  simp only [cellsP] at hfs
  have hc := fun i => World.var?_cell hg5 hv5 i
  simp only [Prod.mk.injEq] at hx
  obtain ⟨hx, _⟩ := hx
  match xs, hn with
  | [y0, y1, y2, y3], _ =>
    match l5, hl with
    | [c0, c1, c2, c3, c4, c5, c6, c7], _ =>
      simp only [Rows.laid_annex_rto_rows, List.map_cons, List.map_nil, DataW.agg.injEq, List.cons.injEq] at hx
      obtain ⟨x0, x1, x2, x3, _⟩ := hx
      have k0 := row_of (c := c0) (c' := c1) (hfs 0 (by decide)) x0.symm
      have k1 := row_of (c := c2) (c' := c3) (hfs 1 (by decide)) x1.symm
      have k2 := row_of (c := c4) (c' := c5) (hfs 2 (by decide)) x2.symm
      have k3 := row_of (c := c6) (c' := c7) (hfs 3 (by decide)) x3.symm
      exact ⟨(hc 0).trans (by rw [k0.1]; rfl), (hc 1).trans (by rw [k0.2]; rfl), (hc 2).trans (by rw [k1.1]; rfl), (hc 3).trans (by rw [k1.2]; rfl), (hc 4).trans (by rw [k2.1]; rfl), (hc 5).trans (by rw [k2.2]; rfl), (hc 6).trans (by rw [k3.1]; rfl), (hc 7).trans (by rw [k3.2]; rfl)⟩

theorem own : ownKnob Tryd.prog.godebug = none := by kernel_rfl
theorem laidOut : laidOutB Tryd.prog = true := by kernel_rfl
theorem door_met (os : Os) (args : Array Value) : laidMetH Tryd.prog laid1 ((World.doorLaid Tryd.prog 400 os).forCall (fun _ _ => 0) ⟨#[], args, []⟩).memory :=
  laidMetH_of_parts3 (fuel := 8) (laidMet_of_run' 8 (by kernel_rfl) (by kernel_rfl)) (by kernel_rfl) (by kernel_rfl)

/-- One that came in. -/
theorem view_pa {H : Type} {enc : TypeId × Value → H} {W : World} {fuel : Nat} {cs : List Value} {y : DataW H × List MemPlace}
    (hf : DataW.trod enc Tryd.prog W 0 (fun _ => true) true fuel 23 cs = some y) :
    ∃ s : Par, cs = [.int .i64 s.mi, .int .i64 s.fi, .int .i64 s.ma] ∧ y.2 = [] := by
  obtain ⟨xs, n, _, hx, hl, hn, hfs⟩ := DataW.trod_struct Tryd.underlying23 hf
  rw [cellsPa] at hl
  match cs, hl with
  | [c0, c1, c2], _ =>
    match xs, hn with
    | [y0, y1, y2], _ =>
      have f0 : DataW.trod enc Tryd.prog W 0 (fun _ => true) true n 3 (([c0, c1, c2].drop 0).take (Tryd.prog.cellsOf 3)) = some y0 := hfs 0 _ rfl
      have f1 : DataW.trod enc Tryd.prog W 0 (fun _ => true) true n 3 (([c0, c1, c2].drop 1).take (Tryd.prog.cellsOf 3)) = some y1 := hfs 1 _ rfl
      have f2 : DataW.trod enc Tryd.prog W 0 (fun _ => true) true n 3 (([c0, c1, c2].drop 2).take (Tryd.prog.cellsOf 3)) = some y2 := hfs 2 _ rfl
      rw [cells3] at f0 f1 f2
      obtain ⟨X0, e0, h0, _⟩ := DataW.trod_int Tryd.underlying3 f0
      obtain ⟨X1, e1, h1, _⟩ := DataW.trod_int Tryd.underlying3 f1
      obtain ⟨X2, e2, h2, _⟩ := DataW.trod_int Tryd.underlying3 f2
      simp at e0 e1 e2
      subst e0 e1 e2
      refine ⟨⟨X0, X1, X2⟩, rfl, ?_⟩
      subst hx
      simp [h0, h1, h2]

/-- One that came in. -/
theorem view_es {H : Type} {enc : TypeId × Value → H} {W : World} {fuel : Nat} {cs : List Value} {y : DataW H × List MemPlace}
    (hf : DataW.trod enc Tryd.prog W 0 (fun _ => true) true fuel 25 cs = some y) :
    ∃ s : Est, cs = [.int .i64 s.s, .int .i64 s.v, .int .i64 s.r, .int .i64 s.n, .bool s.k] ∧ y.2 = [] := by
  obtain ⟨xs, n, _, hx, hl, hn, hfs⟩ := DataW.trod_struct Tryd.underlying25 hf
  rw [cellsEs] at hl
  match cs, hl with
  | [c0, c1, c2, c3, c4], _ =>
    match xs, hn with
    | [y0, y1, y2, y3, y4], _ =>
      have f0 : DataW.trod enc Tryd.prog W 0 (fun _ => true) true n 3 (([c0, c1, c2, c3, c4].drop 0).take (Tryd.prog.cellsOf 3)) = some y0 := hfs 0 _ rfl
      have f1 : DataW.trod enc Tryd.prog W 0 (fun _ => true) true n 3 (([c0, c1, c2, c3, c4].drop 1).take (Tryd.prog.cellsOf 3)) = some y1 := hfs 1 _ rfl
      have f2 : DataW.trod enc Tryd.prog W 0 (fun _ => true) true n 3 (([c0, c1, c2, c3, c4].drop 2).take (Tryd.prog.cellsOf 3)) = some y2 := hfs 2 _ rfl
      have f3 : DataW.trod enc Tryd.prog W 0 (fun _ => true) true n 3 (([c0, c1, c2, c3, c4].drop 3).take (Tryd.prog.cellsOf 3)) = some y3 := hfs 3 _ rfl
      have f4 : DataW.trod enc Tryd.prog W 0 (fun _ => true) true n 4 (([c0, c1, c2, c3, c4].drop 4).take (Tryd.prog.cellsOf 4)) = some y4 := hfs 4 _ rfl
      rw [cells3] at f0 f1 f2 f3
      rw [cells4] at f4
      obtain ⟨X0, e0, h0, _⟩ := DataW.trod_int Tryd.underlying3 f0
      obtain ⟨X1, e1, h1, _⟩ := DataW.trod_int Tryd.underlying3 f1
      obtain ⟨X2, e2, h2, _⟩ := DataW.trod_int Tryd.underlying3 f2
      obtain ⟨X3, e3, h3, _⟩ := DataW.trod_int Tryd.underlying3 f3
      obtain ⟨X4, e4, h4⟩ := DataW.trod_bool Tryd.underlying4 f4
      simp at e0 e1 e2 e3 e4
      subst e0 e1 e2 e3 e4
      refine ⟨⟨X0, X1, X2, X3, X4⟩, rfl, ?_⟩
      subst hx
      simp [h0, h1, h2, h3, h4]

end Go.Proofs.YtjaheoccofcklabDoor
