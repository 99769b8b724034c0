/- Shapes and layouts that came in, opened once; the witness's world. -/
import Derived.Test.YtgpeefedboomoabDoorCards
import Derived.Test.YtgpeefedboomoabDoorTie
import Derived.Test.YtgpeefedboomoabDoorPLaid
import Derived.ProofKit
import Derived.LaidMore
import Derived.OpenShut
import Derived.SizedLaws
import Derived.Stop.Joined
import Derived.SevenTiedAt
import Derived.Deep.DeepHandedRow
import Derived.Deep.DeepWitnessRowRef
namespace Go.Proofs.YtgpeefedboomoabDoor
open Go.ChangeShapes Go.WideShapes Go.ChangeAt Go.RowKit
set_option maxRecDepth 100000

theorem own : ownKnob Tryd.prog.godebug = none := by kernel_rfl
theorem laidOut : laidOutB Tryd.prog = true := by kernel_rfl
theorem cells5 : Tryd.prog.cellsOf 5 = 1 := by kernel_rfl
theorem bytes5 : Tryd.prog.bytesOf 5 = 1 := by kernel_rfl
theorem cellsSh : Tryd.prog.cellsOf 33 = 8 := by kernel_rfl

theorem door_met (os : Os) (args : Array Value) : laidMetH Tryd.prog laid6 ((World.doorLaid Tryd.prog 400 os).forCall (fun _ _ => 0) ⟨#[], args, []⟩).memory :=
  laidMetH_of_parts3 (fuel := 8) (laidMet_of_run' 8 (by kernel_rfl) (by kernel_rfl)) (by kernel_rfl) (by kernel_rfl)

/-- A shape that came in. -/
theorem view_sh {H : Type} {enc : TypeId × Value → H} {W : World} {fuel : Nat} {cs : List Value} {y : DataW H × List MemPlace}
    (hf : DataW.trod enc Tryd.prog W 0 (fun _ => true) true fuel 33 cs = some y) :
    ∃ s : Shp, cs = [.int .i64 s.cl, .int .i64 s.wi, .int .i64 s.pl, .int .i64 s.ca, .int .i64 s.ino, .int .i64 s.qu, .int .i64 s.da, .int .i64 s.jo] ∧ y.2 = [] := by
  obtain ⟨xs, n, _, hx, hl, hn, hfs⟩ := DataW.trod_struct Tryd.underlying33 hf
  rw [cellsSh] at hl
  match cs, hl with
  | [c0, c1, c2, c3, c4, c5, c6, c7], _ =>
    match xs, hn with
    | [y0, y1, y2, y3, y4, y5, y6, y7], _ =>
      have f0 : DataW.trod enc Tryd.prog W 0 (fun _ => true) true n 3 (([c0, c1, c2, c3, c4, c5, c6, c7].drop 0).take (Tryd.prog.cellsOf 3)) = some y0 := hfs 0 _ rfl
      have f1 : DataW.trod enc Tryd.prog W 0 (fun _ => true) true n 3 (([c0, c1, c2, c3, c4, c5, c6, c7].drop 1).take (Tryd.prog.cellsOf 3)) = some y1 := hfs 1 _ rfl
      have f2 : DataW.trod enc Tryd.prog W 0 (fun _ => true) true n 3 (([c0, c1, c2, c3, c4, c5, c6, c7].drop 2).take (Tryd.prog.cellsOf 3)) = some y2 := hfs 2 _ rfl
      have f3 : DataW.trod enc Tryd.prog W 0 (fun _ => true) true n 3 (([c0, c1, c2, c3, c4, c5, c6, c7].drop 3).take (Tryd.prog.cellsOf 3)) = some y3 := hfs 3 _ rfl
      have f4 : DataW.trod enc Tryd.prog W 0 (fun _ => true) true n 3 (([c0, c1, c2, c3, c4, c5, c6, c7].drop 4).take (Tryd.prog.cellsOf 3)) = some y4 := hfs 4 _ rfl
      have f5 : DataW.trod enc Tryd.prog W 0 (fun _ => true) true n 3 (([c0, c1, c2, c3, c4, c5, c6, c7].drop 5).take (Tryd.prog.cellsOf 3)) = some y5 := hfs 5 _ rfl
      have f6 : DataW.trod enc Tryd.prog W 0 (fun _ => true) true n 3 (([c0, c1, c2, c3, c4, c5, c6, c7].drop 6).take (Tryd.prog.cellsOf 3)) = some y6 := hfs 6 _ rfl
      have f7 : DataW.trod enc Tryd.prog W 0 (fun _ => true) true n 3 (([c0, c1, c2, c3, c4, c5, c6, c7].drop 7).take (Tryd.prog.cellsOf 3)) = some y7 := hfs 7 _ rfl
      rw [cells3] at f0 f1 f2 f3 f4 f5 f6 f7
      obtain ⟨X0, e0, h0, _⟩ := DataW.trod_int Tryd.underlying3 f0
      obtain ⟨X1, e1, h1, _⟩ := DataW.trod_int Tryd.underlying3 f1
      obtain ⟨X2, e2, h2, _⟩ := DataW.trod_int Tryd.underlying3 f2
      obtain ⟨X3, e3, h3, _⟩ := DataW.trod_int Tryd.underlying3 f3
      obtain ⟨X4, e4, h4, _⟩ := DataW.trod_int Tryd.underlying3 f4
      obtain ⟨X5, e5, h5, _⟩ := DataW.trod_int Tryd.underlying3 f5
      obtain ⟨X6, e6, h6, _⟩ := DataW.trod_int Tryd.underlying3 f6
      obtain ⟨X7, e7, h7, _⟩ := DataW.trod_int Tryd.underlying3 f7
      simp at e0 e1 e2 e3 e4 e5 e6 e7
      subst e0 e1 e2 e3 e4 e5 e6 e7
      refine ⟨⟨X0, X1, X2, X3, X4, X5, X6, X7⟩, rfl, ?_⟩
      subst hx
      simp [h0, h1, h2, h3, h4, h5, h6, h7]
end Go.Proofs.YtgpeefedboomoabDoor
