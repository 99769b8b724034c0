/- A list of pairs that came in, opened once. -/
import Derived.Test.YtbopghpfghaoeaaAView
import Derived.Test.YtbopghpfghaoeaaAB
import Derived.Deep.Slices
namespace Go.Proofs.Ytbopghpfghaoeaa
open Go.ChangeShapes Go.WideShapes Go.ChangeAt Go.RowKit Go.Deep
set_option maxRecDepth 100000

theorem cellsPair : Try.prog.cellsOf 28 = 2 := by kernel_rfl
theorem bytesPair : Try.prog.bytesOf 28 = 16 := by kernel_rfl
theorem pair_of {H : Type} {enc : TypeId × Value → H} {W : World} {fuel : Nat} {cs : List Value} {y : DataW H × List MemPlace} {a : Addr}
    (hc : W.cells? 0 a 2 = some cs) (hf : DataW.trod enc Try.prog W 0 (fun _ => true) true fuel 28 cs = some y) :
    ∃ o : Int × Int, W.cell? (a.add 0) = some (.int .i64 o.1) ∧ W.cell? (a.add 1) = some (.int .i64 o.2) ∧ PIn o := by
  obtain ⟨xs, n, _, hy, hl, hn, hfs⟩ := DataW.trod_struct Try.underlying28 hf
  rw [cellsPair] at hl
  obtain ⟨_, hlen, hcell⟩ := World.cells?_some hc
  match cs, hl with
  | [c0, c1], _ =>
    match xs, hn with
    | [y0, y1], _ =>
      have f0 : DataW.trod enc Try.prog W 0 (fun _ => true) true n 3 (([c0, c1].drop 0).take (Try.prog.cellsOf 3)) = some y0 := hfs 0 _ rfl
      have f1 : DataW.trod enc Try.prog W 0 (fun _ => true) true n 3 (([c0, c1].drop 1).take (Try.prog.cellsOf 3)) = some y1 := hfs 1 _ rfl
      rw [cellsInt] at f0 f1
      obtain ⟨K0, e0, _, g0⟩ := DataW.trod_int Try.underlying3 f0
      obtain ⟨K1, e1, _, g1⟩ := DataW.trod_int Try.underlying3 f1
      simp at e0 e1
      subst e0 e1
      exact ⟨(K0, K1), hcell 0 (by decide), hcell 1 (by decide), ⟨bounds_i64 g0, bounds_i64 g1⟩⟩
theorem view_pairs {H : Type} {enc : TypeId × Value → H} {W : World} {fuel : Nat} {a0 : Option Addr} {len cap : Nat} {d : DataW H} {p : List MemPlace}
    (hf : DataW.trod enc Try.prog W 0 (fun _ => true) true fuel 22 (Value.slice a0 len cap).cells.toList = some (d, p)) :
    ∃ es : List (Int × Int), PLies W a0 len es ∧ (len = 0 ∨ ∃ ds sp, d = .slice ds sp ∧ ds.length = len) := by
  rcases open_slice Try.underlying22 hf with ⟨hcs, hx⟩ | ⟨a, len', cap', m, n, D, Pl, hcs, _, hl, hm, hmm, hx, hel⟩
  · simp [Value.cells] at hcs
    obtain ⟨rfl, rfl, rfl⟩ := hcs
    exact ⟨[], ⟨rfl, fun j s h => by simp at h⟩, Or.inl rfl⟩
  · simp [Value.cells] at hcs
    obtain ⟨rfl, rfl, rfl⟩ := hcs
    simp only [if_true] at hmm
    subst hmm
    rw [cellsPair] at hel
    obtain ⟨X, hX⟩ := choose_lt (α := Int × Int) (p := fun i x => W.cell? ((a.add (i * 2)).add 0) = some (.int .i64 x.1) ∧ W.cell? ((a.add (i * 2)).add 1) = some (.int .i64 x.2) ∧ PIn x) (n := len) (fun i hi => by
      obtain ⟨cs', h1, h2⟩ := hel i (by omega)
      exact pair_of h1 h2)
    refine ⟨(List.range len).map X, ⟨by simp, fun j s hj => ?_⟩, Or.inr ⟨_, _, (Prod.mk.inj hx).1, by simp⟩⟩
    have hjl : j < len := by
      have := (List.getElem?_eq_some_iff.1 hj).1
      simpa using this
    obtain ⟨h0, h1, hI⟩ := hX j hjl
    simp [hjl] at hj
    subst hj
    have q00 := (hX 0 (by omega)).1
    obtain ⟨b', o, spot⟩ := a
    have hspot : spot = none := by simpa [Addr.add] using World.cell?_spot q00
    subst hspot
    rw [Addr.add_lit, Addr.add_lit] at h0 h1
    exact ⟨hI, b', o, rfl, h0, h1⟩
theorem reach_pairs {H : Type} {ts : List TypeId} {ds : List (DataW H)} {len : Nat} {d : DataW H} {j : Nat} (hsz : (DataW.weightsEach Try.prog ts ds).all (· ≤ reachBytes) = true) (ht : ts[j]? = some 22) (hd : ds[j]? = some d) (h : len = 0 ∨ ∃ xs sp, d = .slice xs sp ∧ xs.length = len) : len ≤ 140737488355328 := by
  rcases h with h | ⟨xs, sa, h, hl⟩
  · omega
  · have := sized_slice hsz (j := j) (t := 22) (e := 28) ht (by rw [hd, h]) Try.underlying22
    rw [bytesPair] at this
    simp only [hl, reachBytes] at this
    omega
end Go.Proofs.Ytbopghpfghaoeaa
