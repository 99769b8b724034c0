/- Lists of shapes that came in, opened once. -/
import Derived.Test.YtgpeefedboomoabDoorPView2
import Derived.Test.YtgpeefedboomoabDoorP31
import Derived.Deep.Slices
namespace Go.Proofs.YtgpeefedboomoabDoor
open Go.ChangeShapes Go.WideShapes Go.ChangeAt Go.RowKit Go.Deep
set_option maxRecDepth 100000

theorem bytesSh : Tryd.prog.bytesOf 33 = 64 := by kernel_rfl
theorem sh_in {H : Type} {enc : TypeId × Value → H} {W : World} {fuel : Nat} {cs : List Value} {y : DataW H × List MemPlace} {a : Addr}
    (hc : W.cells? 0 a 8 = some cs) (hf : DataW.trod enc Tryd.prog W 0 (fun _ => true) true fuel 33 cs = some y) :
    ∃ x : Shp, ∀ j v, [Value.int .i64 x.cl, Value.int .i64 x.wi, Value.int .i64 x.pl, Value.int .i64 x.ca, Value.int .i64 x.ino, Value.int .i64 x.qu, Value.int .i64 x.da, Value.int .i64 x.jo][j]? = some v → W.cell? (a.add j) = some v := by
  obtain ⟨s, hs, _⟩ := view_sh hf
  obtain ⟨_, hlen, hcell⟩ := World.cells?_some hc
  refine ⟨s, fun j v hv => ?_⟩
  have hj : j < 8 := (List.getElem?_eq_some_iff.1 hv).1
  rw [hcell j hj, hs]
  exact hv
theorem view_shs {H : Type} {enc : TypeId × Value → H} {W : World} {fuel : Nat} {a0 : Option Addr} {len cap : Nat} {y : DataW H × List MemPlace}
    (hf : DataW.trod enc Tryd.prog W 0 (fun _ => true) true fuel 22 (Value.slice a0 len cap).cells.toList = some y) :
    ∃ ss : List Shp, SLies W a0 len cap ss ∧ (len = 0 ∨ ∃ el sp, y.1 = .slice el sp ∧ el.length = len) := by
  rcases open_slice Tryd.underlying22 hf with ⟨hcs, hx⟩ | ⟨a, len', cap', m, n, D, Pl, hcs, _, hl, hm, hmm, hx, hel⟩
  · simp [Value.cells] at hcs
    obtain ⟨rfl, rfl, rfl⟩ := hcs
    exact ⟨[], ⟨rfl, Nat.le_refl _, fun j s h => by simp at h⟩, .inl rfl⟩
  · simp [Value.cells] at hcs
    obtain ⟨rfl, rfl, rfl⟩ := hcs
    simp only [if_true] at hmm
    rw [cellsSh] at hel
    have hinh : Inhabited Shp := ⟨shZ⟩
    obtain ⟨X, hX⟩ := choose_lt (α := Shp) (p := fun i x => ∀ j v, [Value.int .i64 x.cl, Value.int .i64 x.wi, Value.int .i64 x.pl, Value.int .i64 x.ca, Value.int .i64 x.ino, Value.int .i64 x.qu, Value.int .i64 x.da, Value.int .i64 x.jo][j]? = some v → W.cell? ((a.add (i * 8)).add j) = some v) (n := len) (fun i hi => by
      obtain ⟨cs', h1, h2⟩ := hel i (by omega)
      exact sh_in h1 h2)
    refine ⟨(List.range len).map X, ⟨by simp, hl, fun j s hj => ?_⟩, .inr ⟨_, _, by rw [hx], by simp⟩⟩
    have hjl : j < len := by
      have := (List.getElem?_eq_some_iff.1 hj).1
      simpa using this
    have h0 := hX j hjl
    simp [hjl] at hj
    subst hj
    have q0 := h0 0 _ rfl
    have q1 := h0 1 _ rfl
    have q2 := h0 2 _ rfl
    have q3 := h0 3 _ rfl
    have q4 := h0 4 _ rfl
    have q5 := h0 5 _ rfl
    have q6 := h0 6 _ rfl
    have q7 := h0 7 _ rfl
    have q00 := hX 0 (by omega) 0 _ rfl
    obtain ⟨b', o, spot⟩ := a
    have hspot : spot = none := by simpa [Addr.add] using World.cell?_spot q00
    subst hspot
    rw [Addr.add_lit, Addr.add_lit] at q0 q1 q2 q3 q4 q5 q6 q7
    exact ⟨b', o, rfl, ⟨q0, q1, q2, q3, q4, q5, q6, q7⟩⟩
theorem shs_reach {H : Type} {k : Nat} {y : DataW H} (hZ : k = 0 ∨ ∃ el sp, y = .slice el sp ∧ el.length = k) (hall : ∀ n ∈ y.weights Tryd.prog 22, n ≤ reachBytes) : k ≤ reachBytes := by
  rcases hZ with h | ⟨el, sp, h, hel⟩
  · omega
  · have h1 := hall ((el.length + sp.length) * Tryd.prog.bytesOf 33) (by rw [h]; simp [DataW.weights, Tryd.underlying22])
    rw [bytesSh, hel] at h1
    omega
end Go.Proofs.YtgpeefedboomoabDoor
