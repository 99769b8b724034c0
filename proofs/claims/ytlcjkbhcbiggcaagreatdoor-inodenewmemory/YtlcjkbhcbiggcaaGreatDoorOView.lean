/- Steps that came in, opened once. -/
import Derived.Test.YtlcjkbhcbiggcaaGreatDoorPk01
import Derived.Test.YtlcjkbhcbiggcaaGreatDoorNM
import Derived.Deep.Slices
namespace Go.Proofs.YtlcjkbhcbiggcaaGreatDoor
open Go.ChangeShapes Go.WideShapes Go.ChangeAt Go.RowKit Go.Deep
set_option maxRecDepth 100000

theorem ocells3 : Tryz.prog.cellsOf 3 = 1 := by kernel_rfl
theorem ocells5 : Tryz.prog.cellsOf 5 = 1 := by kernel_rfl
theorem ocellsS : Tryz.prog.cellsOf 39 = 1 := by kernel_rfl
theorem ocellsI : Tryz.prog.cellsOf 38 = 13 := by kernel_rfl
theorem ocellsA : Tryz.prog.cellsOf 36 = 8 := by kernel_rfl
theorem ocellsO : Tryz.prog.cellsOf 41 = 17 := by kernel_rfl
theorem op_of {H : Type} {enc : TypeId × Value → H} {W : World} {fuel : Nat} {cs : List Value} {y : DataW H × List MemPlace} {a : Addr}
    (hc : W.cells? 0 a 17 = some cs) (hf : DataW.trod enc Tryz.prog W 0 (fun _ => true) true fuel 41 cs = some y) :
    ∃ o : Opn, ∀ (j : Nat) v, (opA o).toList[j]? = some v → W.cell? (a.add j) = some v := by
  obtain ⟨xs, n, _, _, hl, hn, hfs⟩ := DataW.trod_struct Tryz.underlying41 hf
  rw [ocellsO] at hl
  obtain ⟨_, hlen, hcell⟩ := World.cells?_some hc
  match cs, hl with
  | [c0, c1, c2, c3, c4, c5, c6, c7, c8, c9, c10, c11, c12, c13, c14, c15, c16], _ =>
    match xs, hn with
    | [y0, y1, y2, y3, y4], _ =>
      have f0 : DataW.trod enc Tryz.prog W 0 (fun _ => true) true n 3 (([c0, c1, c2, c3, c4, c5, c6, c7, c8, c9, c10, c11, c12, c13, c14, c15, c16].drop 0).take (Tryz.prog.cellsOf 3)) = some y0 := hfs 0 _ rfl
      have f1 : DataW.trod enc Tryz.prog W 0 (fun _ => true) true n 3 (([c0, c1, c2, c3, c4, c5, c6, c7, c8, c9, c10, c11, c12, c13, c14, c15, c16].drop 1).take (Tryz.prog.cellsOf 3)) = some y1 := hfs 1 _ rfl
      have f2 : DataW.trod enc Tryz.prog W 0 (fun _ => true) true n 3 (([c0, c1, c2, c3, c4, c5, c6, c7, c8, c9, c10, c11, c12, c13, c14, c15, c16].drop 2).take (Tryz.prog.cellsOf 3)) = some y2 := hfs 2 _ rfl
      have f3 : DataW.trod enc Tryz.prog W 0 (fun _ => true) true n 38 (([c0, c1, c2, c3, c4, c5, c6, c7, c8, c9, c10, c11, c12, c13, c14, c15, c16].drop 3).take (Tryz.prog.cellsOf 38)) = some y3 := hfs 3 _ rfl
      have f4 : DataW.trod enc Tryz.prog W 0 (fun _ => true) true n 39 (([c0, c1, c2, c3, c4, c5, c6, c7, c8, c9, c10, c11, c12, c13, c14, c15, c16].drop 16).take (Tryz.prog.cellsOf 39)) = some y4 := hfs 4 _ rfl
      rw [ocells3] at f0 f1 f2
      rw [ocellsI] at f3
      rw [ocellsS] at f4
      obtain ⟨K0, e0, _, _⟩ := DataW.trod_int Tryz.underlying3 f0
      obtain ⟨K1, e1, _, _⟩ := DataW.trod_int Tryz.underlying3 f1
      obtain ⟨K2, e2, _, _⟩ := DataW.trod_int Tryz.underlying3 f2
      obtain ⟨zs, n', _, _, hl2, hn2, hfs2⟩ := DataW.trod_struct Tryz.underlying38 f3
      have e16 : ∃ ao k cap, c16 = Value.slice ao k cap := by
        rcases open_ints Tryz.underlying39 Tryz.underlying5 ocells5 f4 with ⟨hcs, _⟩ | ⟨a', len, cap, zs', hcs, _⟩
        · simp at hcs
          exact ⟨_, _, _, hcs⟩
        · simp at hcs
          exact ⟨_, _, _, hcs⟩
      obtain ⟨ao, k, cap, rfl⟩ := e16
      match zs, hn2 with
      | [z0, z1, z2, z3, z4, z5], _ =>
        have g0 : DataW.trod enc Tryz.prog W 0 (fun _ => true) true n' 3 (([c3, c4, c5, c6, c7, c8, c9, c10, c11, c12, c13, c14, c15].drop 0).take (Tryz.prog.cellsOf 3)) = some z0 := hfs2 0 _ rfl
        have g1 : DataW.trod enc Tryz.prog W 0 (fun _ => true) true n' 3 (([c3, c4, c5, c6, c7, c8, c9, c10, c11, c12, c13, c14, c15].drop 1).take (Tryz.prog.cellsOf 3)) = some z1 := hfs2 1 _ rfl
        have g2 : DataW.trod enc Tryz.prog W 0 (fun _ => true) true n' 3 (([c3, c4, c5, c6, c7, c8, c9, c10, c11, c12, c13, c14, c15].drop 2).take (Tryz.prog.cellsOf 3)) = some z2 := hfs2 2 _ rfl
        have g3 : DataW.trod enc Tryz.prog W 0 (fun _ => true) true n' 3 (([c3, c4, c5, c6, c7, c8, c9, c10, c11, c12, c13, c14, c15].drop 3).take (Tryz.prog.cellsOf 3)) = some z3 := hfs2 3 _ rfl
        have g4 : DataW.trod enc Tryz.prog W 0 (fun _ => true) true n' 36 (([c3, c4, c5, c6, c7, c8, c9, c10, c11, c12, c13, c14, c15].drop 4).take (Tryz.prog.cellsOf 36)) = some z4 := hfs2 4 _ rfl
        have g5 : DataW.trod enc Tryz.prog W 0 (fun _ => true) true n' 3 (([c3, c4, c5, c6, c7, c8, c9, c10, c11, c12, c13, c14, c15].drop 12).take (Tryz.prog.cellsOf 3)) = some z5 := hfs2 5 _ rfl
        rw [ocells3] at g0 g1 g2 g3 g5
        rw [ocellsA] at g4
        obtain ⟨X0, x0, _, _⟩ := DataW.trod_int Tryz.underlying3 g0
        obtain ⟨X1, x1, _, _⟩ := DataW.trod_int Tryz.underlying3 g1
        obtain ⟨X2, x2, _, _⟩ := DataW.trod_int Tryz.underlying3 g2
        obtain ⟨X3, x3, _, _⟩ := DataW.trod_int Tryz.underlying3 g3
        obtain ⟨X5, x5, _, _⟩ := DataW.trod_int Tryz.underlying3 g5
        obtain ⟨us, n2, _, _, hl3, hn3, hfs3⟩ := DataW.trod_array Tryz.underlying36 g4
        simp only [ocells3] at hfs3
        match us, hn3 with
        | [u0, u1, u2, u3, u4, u5, u6, u7], _ =>
          have a0 : DataW.trod enc Tryz.prog W 0 (fun _ => true) true n2 3 (([c7, c8, c9, c10, c11, c12, c13, c14].drop 0).take 1) = some u0 := hfs3 0 (by decide)
          have a1 : DataW.trod enc Tryz.prog W 0 (fun _ => true) true n2 3 (([c7, c8, c9, c10, c11, c12, c13, c14].drop 1).take 1) = some u1 := hfs3 1 (by decide)
          have a2 : DataW.trod enc Tryz.prog W 0 (fun _ => true) true n2 3 (([c7, c8, c9, c10, c11, c12, c13, c14].drop 2).take 1) = some u2 := hfs3 2 (by decide)
          have a3 : DataW.trod enc Tryz.prog W 0 (fun _ => true) true n2 3 (([c7, c8, c9, c10, c11, c12, c13, c14].drop 3).take 1) = some u3 := hfs3 3 (by decide)
          have a4 : DataW.trod enc Tryz.prog W 0 (fun _ => true) true n2 3 (([c7, c8, c9, c10, c11, c12, c13, c14].drop 4).take 1) = some u4 := hfs3 4 (by decide)
          have a5 : DataW.trod enc Tryz.prog W 0 (fun _ => true) true n2 3 (([c7, c8, c9, c10, c11, c12, c13, c14].drop 5).take 1) = some u5 := hfs3 5 (by decide)
          have a6 : DataW.trod enc Tryz.prog W 0 (fun _ => true) true n2 3 (([c7, c8, c9, c10, c11, c12, c13, c14].drop 6).take 1) = some u6 := hfs3 6 (by decide)
          have a7 : DataW.trod enc Tryz.prog W 0 (fun _ => true) true n2 3 (([c7, c8, c9, c10, c11, c12, c13, c14].drop 7).take 1) = some u7 := hfs3 7 (by decide)
          obtain ⟨D0, b0, _, _⟩ := DataW.trod_int Tryz.underlying3 a0
          obtain ⟨D1, b1, _, _⟩ := DataW.trod_int Tryz.underlying3 a1
          obtain ⟨D2, b2, _, _⟩ := DataW.trod_int Tryz.underlying3 a2
          obtain ⟨D3, b3, _, _⟩ := DataW.trod_int Tryz.underlying3 a3
          obtain ⟨D4, b4, _, _⟩ := DataW.trod_int Tryz.underlying3 a4
          obtain ⟨D5, b5, _, _⟩ := DataW.trod_int Tryz.underlying3 a5
          obtain ⟨D6, b6, _, _⟩ := DataW.trod_int Tryz.underlying3 a6
          obtain ⟨D7, b7, _, _⟩ := DataW.trod_int Tryz.underlying3 a7
          simp at e0 e1 e2 x0 x1 x2 x3 x5 b0 b1 b2 b3 b4 b5 b6 b7
          subst e0 e1 e2 x0 x1 x2 x3 x5 b0 b1 b2 b3 b4 b5 b6 b7
          refine ⟨⟨K0, K1, K2, ⟨X0, X1, X2, X3, fun t => [D0, D1, D2, D3, D4, D5, D6, D7].getD t 0, X5⟩, ao, k, cap⟩, fun j v hv => ?_⟩
          have hj : j < 17 := (List.getElem?_eq_some_iff.1 hv).1
          rw [hcell j hj]
          exact hv
theorem view_ops {H : Type} {enc : TypeId × Value → H} {W : World} {fuel : Nat} {a0 : Option Addr} {len cap : Nat} {y : DataW H × List MemPlace}
    (hf : DataW.trod enc Tryz.prog W 0 (fun _ => true) true fuel 22 (Value.slice a0 len cap).cells.toList = some y) : ∃ ps, Ols W a0 len cap ps := by
  rcases open_slice Tryz.underlying22 hf with ⟨hcs, hx⟩ | ⟨a, len', cap', m, n, D, Pl, hcs, _, hl, hm, hmm, hx, hel⟩
  · simp [Value.cells] at hcs
    obtain ⟨rfl, rfl, rfl⟩ := hcs
    exact ⟨[], rfl, fun j s h => by simp at h⟩
  · simp [Value.cells] at hcs
    obtain ⟨rfl, rfl, rfl⟩ := hcs
    simp only [if_true] at hmm
    subst hmm
    rw [ocellsO] at hel
    have hinh : Inhabited Opn := ⟨⟨0, 0, 0, ino0, none, 0, 0⟩⟩
    obtain ⟨X, hX⟩ := choose_lt (α := Opn) (p := fun i x => ∀ (j : Nat) v, (opA x).toList[j]? = some v → W.cell? ((a.add (i * 17)).add j) = some v) (n := len) (fun i hi => by
      obtain ⟨cs', h1, h2⟩ := hel i (by omega)
      exact op_of h1 h2)
    refine ⟨(List.range len).map X, by simp, fun j s hj => ?_⟩
    have hjl : j < len := by
      have := (List.getElem?_eq_some_iff.1 hj).1
      simpa using this
    have h0 := hX j hjl
    simp [hjl] at hj
    subst hj
    have q00 := (hX 0 (by omega)) 0 _ rfl
    obtain ⟨b', o, spot⟩ := a
    have hspot : spot = none := by simpa [Addr.add] using World.cell?_spot q00
    subst hspot
    refine ⟨b', o, rfl, fun t v hv => ?_⟩
    have := h0 t v hv
    rw [Addr.add_lit, Addr.add_lit] at this
    exact this
end Go.Proofs.YtlcjkbhcbiggcaaGreatDoor
