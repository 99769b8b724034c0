/- A list of items that came in, opened once. -/
import Derived.Test.YtkfdneohkgmmbaaQViewO
import Derived.Test.YtkfdneohkgmmbaaMM1
namespace Go.Proofs.Ytkfdneohkgmmbaa
open Go.ChangeShapes Go.WideShapes Go.ChangeAt Go.RowKit Go.Deep
set_option maxRecDepth 100000

theorem cellsItem : Try.prog.cellsOf 43 = 3 := by kernel_rfl
theorem bytesItem : Try.prog.bytesOf 43 = 24 := by kernel_rfl
theorem item_of {H : Type} {enc : TypeId × Value → H} {W : World} {fuel : Nat} {cs : List Value} {y : DataW H × List MemPlace} {a : Addr}
    (hc : W.cells? 0 a 3 = some cs) (hf : DataW.trod enc Try.prog W 0 (fun _ => true) true fuel 43 cs = some y) :
    ∃ o : Int × Int × Int, ∀ (j : Nat) v, ([.int .i64 o.1, .int .i64 o.2.1, .int .i64 o.2.2] : List Value)[j]? = some v → W.cell? (a.add j) = some v := by
  obtain ⟨xs, n, _, hy, hl, hn, hfs⟩ := DataW.trod_struct Try.underlying43 hf
  rw [cellsItem] at hl
  obtain ⟨_, hlen, hcell⟩ := World.cells?_some hc
  match cs, hl with
  | [c0, c1, c2], _ =>
    match xs, hn with
    | [y0, y1, y2], _ =>
      have f0 : DataW.trod enc Try.prog W 0 (fun _ => true) true n 3 (([c0, c1, c2].drop 0).take (Try.prog.cellsOf 3)) = some y0 := hfs 0 _ rfl
      have f1 : DataW.trod enc Try.prog W 0 (fun _ => true) true n 3 (([c0, c1, c2].drop 1).take (Try.prog.cellsOf 3)) = some y1 := hfs 1 _ rfl
      have f2 : DataW.trod enc Try.prog W 0 (fun _ => true) true n 3 (([c0, c1, c2].drop 2).take (Try.prog.cellsOf 3)) = some y2 := hfs 2 _ rfl
      rw [cellsInt] at f0 f1 f2
      obtain ⟨K0, e0, _, g0⟩ := DataW.trod_int Try.underlying3 f0
      obtain ⟨K1, e1, _, g1⟩ := DataW.trod_int Try.underlying3 f1
      obtain ⟨K2, e2, _, g2⟩ := DataW.trod_int Try.underlying3 f2
      simp at e0 e1 e2
      subst e0 e1 e2
      refine ⟨(K0, K1, K2), fun j v hv => ?_⟩
      have hj : j < 3 := (List.getElem?_eq_some_iff.1 hv).1
      rw [hcell j hj]
      exact hv
theorem view_items {H : Type} {enc : TypeId × Value → H} {W : World} {fuel : Nat} {a0 : Option Addr} {len cap : Nat} {d : DataW H} {p : List MemPlace}
    (hf : DataW.trod enc Try.prog W 0 (fun _ => true) true fuel 41 (Value.slice a0 len cap).cells.toList = some (d, p)) :
    ∃ es : List (Int × Int × Int), ILies W a0 len es ∧ True ∧ (len = 0 ∨ ∃ ds sp, d = .slice ds sp ∧ ds.length = len) := by
  rcases open_slice Try.underlying41 hf with ⟨hcs, hx⟩ | ⟨a, len', cap', m, n, D, Pl, hcs, _, hl, hm, hmm, hx, hel⟩
  · simp [Value.cells] at hcs
    obtain ⟨rfl, rfl, rfl⟩ := hcs
    exact ⟨[], ⟨rfl, fun j s h => by simp at h⟩, trivial, Or.inl rfl⟩
  · simp [Value.cells] at hcs
    obtain ⟨rfl, rfl, rfl⟩ := hcs
    simp only [if_true] at hmm
    subst hmm
    rw [cellsItem] at hel
    have hinh : Inhabited (Int × Int × Int) := ⟨(0, 0, 0)⟩
    obtain ⟨X, hX⟩ := choose_lt (α := Int × Int × Int) (p := fun i x => ∀ (j : Nat) v, ([.int .i64 x.1, .int .i64 x.2.1, .int .i64 x.2.2] : List Value)[j]? = some v → W.cell? ((a.add (i * 3)).add j) = some v) (n := len) (fun i hi => by
      obtain ⟨cs', h1, h2⟩ := hel i (by omega)
      exact item_of h1 h2)
    refine ⟨(List.range len).map X, ⟨by simp, fun j s hj => ?_⟩, trivial, Or.inr ⟨_, _, (Prod.mk.inj hx).1, by simp⟩⟩
    have hjl : j < len := by
      have := (List.getElem?_eq_some_iff.1 hj).1
      simpa using this
    have h0 := hX j hjl
    simp [hjl] at hj
    subst hj
    have q00 := hX 0 (by omega) 0 _ rfl
    obtain ⟨b', o, spot⟩ := a
    have hspot : spot = none := by simpa [Addr.add] using World.cell?_spot q00
    subst hspot
    have f : ∀ (t : Nat) v, ([.int .i64 (X j).1, .int .i64 (X j).2.1, .int .i64 (X j).2.2] : List Value)[t]? = some v → W.cell? ⟨b', o + j * 3 + t, none⟩ = some v := fun t v hv => by
      have := h0 t v hv
      rw [Addr.add_lit, Addr.add_lit] at this
      exact this
    exact ⟨b', o, rfl, f 0 _ rfl, f 1 _ rfl, f 2 _ rfl⟩
theorem reach_items {H : Type} {ts : List TypeId} {ds : List (DataW H)} {len : Nat} {es : List (Int × Int × Int)} {d : DataW H} {j : Nat} (hsz : (DataW.weightsEach Try.prog ts ds).all (· ≤ reachBytes) = true) (ht : ts[j]? = some 41) (hd : ds[j]? = some d) (_ : es.length = len) (h : len = 0 ∨ ∃ xs sp, d = .slice xs sp ∧ xs.length = len) : len ≤ 5864062014805 := by
  rcases h with h | ⟨xs, sa, h, hl⟩
  · omega
  · have := sized_slice hsz (j := j) (t := 41) (e := 43) ht (by rw [hd, h]) Try.underlying41
    rw [bytesItem] at this
    simp only [hl, reachBytes] at this
    omega
end Go.Proofs.Ytkfdneohkgmmbaa
