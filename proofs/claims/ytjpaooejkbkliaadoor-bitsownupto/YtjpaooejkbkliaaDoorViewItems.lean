/- Fields that came in, opened once. -/
import Derived.Test.YtjpaooejkbkliaaDoorView
import Derived.Test.YtjpaooejkbkliaaDoorFit
import Derived.Deep.Slices
namespace Go.Proofs.YtjpaooejkbkliaaDoor
open Go.ChangeShapes Go.WideShapes Go.ChangeAt Go.RowKit Go.Deep
set_option maxRecDepth 100000

theorem cells32 : Tryd.prog.cellsOf 32 = 4 := by kernel_rfl
theorem cells22 : Tryd.prog.cellsOf 22 = 1 := by kernel_rfl
theorem cells24 : Tryd.prog.cellsOf 24 = 1 := by kernel_rfl
theorem bytes32 : Tryd.prog.bytesOf 32 = 48 := by kernel_rfl

theorem bytes_of {H : Type} {enc : TypeId × Value → H} {W : World} {fuel : Nat} {cs : List Value} {y : DataW H × List MemPlace}
    (hf : DataW.trod enc Tryd.prog W 0 (fun _ => true) true fuel 24 cs = some y) :
    ∃ a0 len cap Z, cs = [.slice a0 len cap] ∧ Lies W a0 len cap Z ∧ (∀ x ∈ Z, 0 ≤ x ∧ x ≤ 255) := by
  have hcs : ∃ a0 len cap, cs = [.slice a0 len cap] := by
    rcases open_ints Tryd.underlying24 Tryd.underlying5 cells5 hf with ⟨h, _⟩ | ⟨a, len', cap', zs, h, _⟩
    · exact ⟨_, _, _, h⟩
    · exact ⟨_, _, _, h⟩
  obtain ⟨a0, len, cap, rfl⟩ := hcs
  obtain ⟨d, p⟩ := y
  obtain ⟨Z, h1, h2, _⟩ := view_bytes (a0 := a0) (len := len) (cap := cap) (d := d) (p := p) (fuel := fuel) hf
  exact ⟨a0, len, cap, Z, rfl, h1, h2⟩

theorem item_of {H : Type} {enc : TypeId × Value → H} {W : World} {fuel : Nat} {cs : List Value} {y : DataW H × List MemPlace} {a : Addr}
    (hc : W.cells? 0 a 4 = some cs) (hf : DataW.trod enc Tryd.prog W 0 (fun _ => true) true fuel 32 cs = some y) :
    ∃ x : Itm, (∀ j v, x.cells[j]? = some v → W.cell? (a.add j) = some v) ∧ Came W x := by
  obtain ⟨xs, n, _, _, hl, hn, hfs⟩ := DataW.trod_struct Tryd.underlying32 hf
  rw [cells32] at hl
  obtain ⟨_, hlen, hcell⟩ := World.cells?_some hc
  match cs, hl with
  | [c0, c1, c2, c3], _ =>
    match xs, hn with
    | [y0, y1, y2, y3], _ =>
      have f0 : DataW.trod enc Tryd.prog W 0 (fun _ => true) true n 3 (([c0, c1, c2, c3].drop 0).take (Tryd.prog.cellsOf 3)) = some y0 := hfs 0 _ rfl
      have f1 : DataW.trod enc Tryd.prog W 0 (fun _ => true) true n 3 (([c0, c1, c2, c3].drop 1).take (Tryd.prog.cellsOf 3)) = some y1 := hfs 1 _ rfl
      have f2 : DataW.trod enc Tryd.prog W 0 (fun _ => true) true n 22 (([c0, c1, c2, c3].drop 2).take (Tryd.prog.cellsOf 22)) = some y2 := hfs 2 _ rfl
      have f3 : DataW.trod enc Tryd.prog W 0 (fun _ => true) true n 24 (([c0, c1, c2, c3].drop 3).take (Tryd.prog.cellsOf 24)) = some y3 := hfs 3 _ rfl
      rw [cells3] at f0 f1
      rw [cells22] at f2
      rw [cells24] at f3
      obtain ⟨K, e0, _, _⟩ := DataW.trod_int Tryd.underlying3 f0
      obtain ⟨X, e1, _, wX⟩ := DataW.trod_int Tryd.underlying3 f1
      obtain ⟨S, e2, _, wS⟩ := DataW.trod_int Tryd.underlying22 f2
      obtain ⟨bo, dl, dc, Z, e3, hL, hs⟩ := bytes_of f3
      simp at e0 e1 e2 e3
      subst e0 e1 e2 e3
      have hS := bounds_u64 wS
      have hX := bounds_i64 wX
      refine ⟨⟨K, X, S, bo, dl, dc, Z⟩, fun j v hv => ?_, ⟨hL, hs, hS.1, hS.2, hX.2⟩⟩
      have hj : j < 4 := (List.getElem?_eq_some_iff.1 hv).1
      rw [hcell j hj]
      exact hv

theorem view_items {H : Type} {enc : TypeId × Value → H} {W : World} {fuel : Nat} {a0 : Option Addr} {len cap : Nat} {d : DataW H} {p : List MemPlace}
    (hf : DataW.trod enc Tryd.prog W 0 (fun _ => true) true fuel 45 (Value.slice a0 len cap).cells.toList = some (d, p)) :
    ∃ xs : List Itm, xs.length = len ∧ (a0 = none → len = 0) ∧ (0 < len → ∃ b o, a0 = some ⟨b, o, none⟩) ∧
      (∀ b o, a0 = some ⟨b, o, none⟩ → ∀ i (h : i < xs.length) j v, (xs[i]).cells[j]? = some v → W.cell? ⟨b, o + i * 4 + j, none⟩ = some v) ∧ (∀ x ∈ xs, Came W x) ∧ (len = 0 ∨ ∃ el sp, d = .slice el sp ∧ el.length = len) := by
  rcases open_slice Tryd.underlying45 hf with ⟨hcs, hx⟩ | ⟨a, len', cap', m, n, D, Pl, hcs, _, hl, hm, hmm, hx, hel⟩
  · simp [Value.cells] at hcs
    obtain ⟨rfl, rfl, rfl⟩ := hcs
    exact ⟨[], rfl, fun _ => rfl, fun h => absurd h (by omega), (fun b o h => by cases h), (fun x hx => by cases hx), .inl rfl⟩
  · simp [Value.cells] at hcs
    obtain ⟨rfl, rfl, rfl⟩ := hcs
    simp only [if_true] at hmm
    subst hmm
    rw [cells32] at hel
    have hinh : Inhabited Itm := ⟨⟨0, 0, 0, none, 0, 0, []⟩⟩
    obtain ⟨X, hX⟩ := choose_lt (α := Itm) (p := fun i x => (∀ j v, x.cells[j]? = some v → W.cell? ((a.add (i * 4)).add j) = some v) ∧ Came W x) (n := len) (fun i hi => by
      obtain ⟨cs', h1, h2⟩ := hel i (by omega)
      exact item_of h1 h2)
    simp only [Prod.mk.injEq] at hx
    refine ⟨(List.range len).map X, by simp, (fun h => by cases h), fun h0 => ?_, fun b o hbo i hi j v hv => ?_, fun x hx => ?_, .inr ⟨_, _, hx.1, by simp⟩⟩
    · obtain ⟨b, o, spot⟩ := a
      have h := (hX 0 h0).1 0 _ rfl
      have hspot : spot = none := by simpa [Addr.add] using World.cell?_spot h
      subst hspot
      exact ⟨b, o, rfl⟩
    · obtain rfl := Option.some.inj hbo
      simp at hi hv
      have := (hX i hi).1 j v hv
      rwa [Addr.add_lit, Addr.add_lit] at this
    · obtain ⟨i, hi, rfl⟩ := List.mem_map.1 hx
      exact (hX i (by simpa using hi)).2
end Go.Proofs.YtjpaooejkbkliaaDoor
