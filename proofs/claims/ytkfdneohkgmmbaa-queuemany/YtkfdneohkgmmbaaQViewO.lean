/- A list of steps that came in, opened once. -/
import Derived.Test.YtkfdneohkgmmbaaQView
import Derived.Test.YtkfdneohkgmmbaaQO
import Derived.Deep.Slices
namespace Go.Proofs.Ytkfdneohkgmmbaa
open Go.ChangeShapes Go.WideShapes Go.ChangeAt Go.RowKit Go.Deep
set_option maxRecDepth 100000

theorem cellsOp : Try.prog.cellsOf 61 = 4 := by kernel_rfl
theorem bytesOp : Try.prog.bytesOf 61 = 32 := by kernel_rfl
theorem op_of {H : Type} {enc : TypeId × Value → H} {W : World} {fuel : Nat} {cs : List Value} {y : DataW H × List MemPlace} {a : Addr}
    (hc : W.cells? 0 a 4 = some cs) (hf : DataW.trod enc Try.prog W 0 (fun _ => true) true fuel 61 cs = some y) :
    ∃ o : Oi, (∀ j v, o.cells[j]? = some v → W.cell? (a.add j) = some v) ∧ OiIn o := by
  obtain ⟨xs, n, _, hy, hl, hn, hfs⟩ := DataW.trod_struct Try.underlying61 hf
  rw [cellsOp] at hl
  obtain ⟨_, hlen, hcell⟩ := World.cells?_some hc
  match cs, hl with
  | [c0, c1, c2, c3], _ =>
    match xs, hn with
    | [y0, y1, y2, y3], _ =>
      have f0 : DataW.trod enc Try.prog W 0 (fun _ => true) true n 3 (([c0, c1, c2, c3].drop 0).take (Try.prog.cellsOf 3)) = some y0 := hfs 0 _ rfl
      have f1 : DataW.trod enc Try.prog W 0 (fun _ => true) true n 3 (([c0, c1, c2, c3].drop 1).take (Try.prog.cellsOf 3)) = some y1 := hfs 1 _ rfl
      have f2 : DataW.trod enc Try.prog W 0 (fun _ => true) true n 3 (([c0, c1, c2, c3].drop 2).take (Try.prog.cellsOf 3)) = some y2 := hfs 2 _ rfl
      have f3 : DataW.trod enc Try.prog W 0 (fun _ => true) true n 3 (([c0, c1, c2, c3].drop 3).take (Try.prog.cellsOf 3)) = some y3 := hfs 3 _ rfl
      rw [cellsInt] at f0 f1 f2 f3
      obtain ⟨K0, e0, _, g0⟩ := DataW.trod_int Try.underlying3 f0
      obtain ⟨K1, e1, _, g1⟩ := DataW.trod_int Try.underlying3 f1
      obtain ⟨K2, e2, _, g2⟩ := DataW.trod_int Try.underlying3 f2
      obtain ⟨K3, e3, _, g3⟩ := DataW.trod_int Try.underlying3 f3
      simp at e0 e1 e2 e3
      subst e0 e1 e2 e3
      refine ⟨⟨K0, K1, K2, K3⟩, fun j v hv => ?_, ⟨bounds_i64 g0, bounds_i64 g1, bounds_i64 g2, bounds_i64 g3⟩⟩
      have hj : j < 4 := (List.getElem?_eq_some_iff.1 hv).1
      rw [hcell j hj]
      exact hv
theorem view_ops {H : Type} {enc : TypeId × Value → H} {W : World} {fuel : Nat} {a0 : Option Addr} {len cap : Nat} {d : DataW H} {p : List MemPlace}
    (hf : DataW.trod enc Try.prog W 0 (fun _ => true) true fuel 50 (Value.slice a0 len cap).cells.toList = some (d, p)) :
    ∃ es : List Oi, OLies W a0 len es ∧ True ∧ (len = 0 ∨ ∃ ds sp, d = .slice ds sp ∧ ds.length = len) := by
  rcases open_slice Try.underlying50 hf with ⟨hcs, hx⟩ | ⟨a, len', cap', m, n, D, Pl, hcs, _, hl, hm, hmm, hx, hel⟩
  · simp [Value.cells] at hcs
    obtain ⟨rfl, rfl, rfl⟩ := hcs
    exact ⟨[], ⟨rfl, fun j s h => by simp at h⟩, trivial, Or.inl rfl⟩
  · simp [Value.cells] at hcs
    obtain ⟨rfl, rfl, rfl⟩ := hcs
    simp only [if_true] at hmm
    subst hmm
    rw [cellsOp] at hel
    have hinh : Inhabited Oi := ⟨⟨0, 0, 0, 0⟩⟩
    obtain ⟨X, hX⟩ := choose_lt (α := Oi) (p := fun i x => (∀ j v, x.cells[j]? = some v → W.cell? ((a.add (i * 4)).add j) = some v) ∧ OiIn x) (n := len) (fun i hi => by
      obtain ⟨cs', h1, h2⟩ := hel i (by omega)
      obtain ⟨d, hd, hI⟩ := op_of h1 h2
      exact ⟨d, hd, hI⟩)
    refine ⟨(List.range len).map X, ⟨by simp, fun j s hj => ?_⟩, trivial, Or.inr ⟨_, _, (Prod.mk.inj hx).1, by simp⟩⟩
    have hjl : j < len := by
      have := (List.getElem?_eq_some_iff.1 hj).1
      simpa using this
    obtain ⟨h0, hI⟩ := hX j hjl
    simp [hjl] at hj
    subst hj
    have q00 := (hX 0 (by omega)).1 0 _ rfl
    obtain ⟨b', o, spot⟩ := a
    have hspot : spot = none := by simpa [Addr.add] using World.cell?_spot q00
    subst hspot
    refine ⟨hI, b', o, rfl, fun t v hv => ?_⟩
    have := h0 t v hv
    rw [Addr.add_lit, Addr.add_lit] at this
    exact this
theorem reach_ops {H : Type} {ts : List TypeId} {ds : List (DataW H)} {len : Nat} {es : List Oi} {d : DataW H} {j : Nat} (hsz : (DataW.weightsEach Try.prog ts ds).all (· ≤ reachBytes) = true) (ht : ts[j]? = some 50) (hd : ds[j]? = some d) (_ : es.length = len) (h : len = 0 ∨ ∃ xs sp, d = .slice xs sp ∧ xs.length = len) : len ≤ 4398046511104 := by
  rcases h with h | ⟨xs, sa, h, hl⟩
  · omega
  · have := sized_slice hsz (j := j) (t := 50) (e := 61) ht (by rw [hd, h]) Try.underlying50
    rw [bytesOp] at this
    simp only [hl, reachBytes] at this
    omega
end Go.Proofs.Ytkfdneohkgmmbaa
