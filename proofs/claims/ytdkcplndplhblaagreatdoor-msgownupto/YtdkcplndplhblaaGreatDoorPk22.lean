/- A list of numbers that came in, opened once; the witness's world. -/
import Derived.Test.YtdkcplndplhblaaGreatDoorCards
import Derived.Test.YtdkcplndplhblaaGreatDoorTie
import Derived.Test.YtdkcplndplhblaaGreatDoorPk21
import Derived.ProofKit
import Derived.LaidMore
import Derived.OpenShut
import Derived.SizedLaws
import Derived.Stop.Joined
import Derived.SevenTiedAt
import Derived.Test.YtdkcplndplhblaaGreatDoorPk10
import Derived.Deep.Slices
import Derived.Test.YtdkcplndplhblaaGreatDoorRows
import Derived.Test.YtdkcplndplhblaaGreatDoorPk20
import Derived.Deep.MidRow
import Derived.Test.YtdkcplndplhblaaGreatDoorPk17
namespace Go.Proofs.YtdkcplndplhblaaGreatDoor
open Go.ChangeShapes Go.WideShapes Go.ChangeAt Go.RowKit

theorem own : ownKnob Tryz.prog.godebug = none := by kernel_rfl
theorem laidOut : laidOutB Tryz.prog = true := by kernel_rfl
theorem cells5 : Tryz.prog.cellsOf 5 = 1 := by kernel_rfl
theorem cells3 : Tryz.prog.cellsOf 3 = 1 := by kernel_rfl
theorem bytes5 : Tryz.prog.bytesOf 5 = 1 := by kernel_rfl
theorem bytes3 : Tryz.prog.bytesOf 3 = 8 := by kernel_rfl

theorem door_met (os : Os) (args : Array Value) : laidMetH Tryz.prog laid5 ((World.doorLaid Tryz.prog 400 os).forCall (fun _ _ => 0) ⟨#[], args, []⟩).memory :=
  laidMetH_of_parts3 (fuel := 8) (laidMet_of_run' 8 (by kernel_rfl) (by kernel_rfl)) (by kernel_rfl) (by kernel_rfl)

/-- A slice of numbers that came in, nil or not: its elements; where they lie; what it reads as. -/
theorem view {H : Type} {enc : TypeId × Value → H} {W : World} {fuel : Nat} {a0 : Option Addr} {len cap : Nat} {d : DataW H} {p : List MemPlace} {t e : TypeId} {k : IntKind} (ht : Tryz.prog.underlying t = some (.slice e)) (he : Tryz.prog.underlying e = some (.int k)) (hc : Tryz.prog.cellsOf e = 1)
    (hf : DataW.trod enc Tryz.prog W 0 (fun _ => true) true fuel t (Value.slice a0 len cap).cells.toList = some (d, p)) :
    ∃ Z : List Int, Z.length = len ∧ len ≤ cap ∧ (a0 = none → len = 0 ∧ cap = 0) ∧ (∀ ad, a0 = some ad → ∀ t, t < len → W.cell? (ad.add t) = some (.int k (Z.getD t 0))) ∧
      (∀ n ∈ Z, (Lit.int k n).wf = true) ∧ (len = 0 ∨ ∃ sp, d = .slice (lits k Z) sp) := by
  rcases open_ints ht he hc hf with ⟨hcs, hx⟩ | ⟨a, len', cap', zs, hcs, _, hl, hm, hz, hx, hcell, hwz⟩
  · simp [Value.cells] at hcs
    obtain ⟨rfl, rfl, rfl⟩ := hcs
    exact ⟨[], rfl, Nat.le_refl _, fun _ => ⟨rfl, rfl⟩, (fun ad h => by cases h), (fun n hn => by cases hn), Or.inl rfl⟩
  · simp [Value.cells] at hcs
    obtain ⟨rfl, rfl, rfl⟩ := hcs
    simp only [Prod.mk.injEq] at hx
    obtain ⟨rfl, rfl⟩ := hx
    simp only [if_true] at hz
    refine ⟨zs.take len, (by simp; omega), hl, (fun h => by cases h), fun ad h t ht => ?_, fun n hn => hwz n (List.mem_of_mem_take hn), Or.inr ⟨_, rfl⟩⟩
    obtain rfl := Option.some.inj h
    rw [hcell t (by omega)]
    simp [List.getD, ht]

/-- The same of bytes, in the contracts' word. -/
theorem view_bytes {H : Type} {enc : TypeId × Value → H} {W : World} {fuel : Nat} {a0 : Option Addr} {len cap : Nat} {d : DataW H} {p : List MemPlace}
    (hf : DataW.trod enc Tryz.prog W 0 (fun _ => true) true fuel 22 (Value.slice a0 len cap).cells.toList = some (d, p)) :
    ∃ Z : List Int, Lies W a0 len cap Z ∧ (∀ x ∈ Z, 0 ≤ x ∧ x ≤ 255) ∧ (len = 0 ∨ ∃ sp, d = .slice (lits .u8 Z) sp) := by
  obtain ⟨Z, h1, h2, h3, h4, h5, h6⟩ := view Tryz.underlying22 Tryz.underlying5 cells5 hf
  refine ⟨Z, ⟨h1, h2, h3, fun ad had t u hu => ?_⟩, fun x hx => ?_, h6⟩
  · have ht : t < len := by
      have := (List.getElem?_eq_some_iff.1 hu).1
      rw [← h1]; simpa using this
    rw [h4 ad had t ht]
    have ht' : t < Z.length := by omega
    simpa [List.getD, ht'] using hu
  · exact bounds_u8 (h5 x hx)
end Go.Proofs.YtdkcplndplhblaaGreatDoor

/- Requests, replies and entries that came in, opened once. -/
namespace Go.Proofs.YtdkcplndplhblaaGreatDoor
open Go.ChangeShapes Go.WideShapes Go.ChangeAt Go.RowKit Go.Deep
set_option maxRecDepth 100000

theorem cellsS : Tryz.prog.cellsOf 9 = 1 := by kernel_rfl
theorem cellsB : Tryz.prog.cellsOf 22 = 1 := by kernel_rfl
theorem cellsL : Tryz.prog.cellsOf 28 = 1 := by kernel_rfl
theorem cellsF : Tryz.prog.cellsOf 4 = 1 := by kernel_rfl
theorem cellsN : Tryz.prog.cellsOf 25 = 1 := by kernel_rfl
theorem cellsRq : Tryz.prog.cellsOf 24 = 13 := by kernel_rfl
theorem cellsRp : Tryz.prog.cellsOf 30 = 12 := by kernel_rfl
theorem cellsEnt : Tryz.prog.cellsOf 86 = 3 := by kernel_rfl
theorem cellsAttr : Tryz.prog.cellsOf 27 = 4 := by kernel_rfl

theorem bytes_of {H : Type} {enc : TypeId × Value → H} {W : World} {fuel : Nat} {cs : List Value} {y : DataW H × List MemPlace}
    (hf : DataW.trod enc Tryz.prog W 0 (fun _ => true) true fuel 22 cs = some y) :
    ∃ a0 len cap Z, cs = [.slice a0 len cap] ∧ Lies W a0 len cap Z ∧ (∀ x ∈ Z, 0 ≤ x ∧ x ≤ 255) ∧ (len = 0 ∨ ∃ sp, y.1 = .slice (lits .u8 Z) sp) := by
  have hcs : ∃ a0 len cap, cs = [.slice a0 len cap] := by
    rcases open_ints Tryz.underlying22 Tryz.underlying5 cells5 hf with ⟨h, _⟩ | ⟨a, len', cap', zs, h, _⟩
    · exact ⟨_, _, _, h⟩
    · exact ⟨_, _, _, h⟩
  obtain ⟨a0, len, cap, rfl⟩ := hcs
  obtain ⟨d, p⟩ := y
  obtain ⟨Z, h1, h2, h3⟩ := view_bytes (a0 := a0) (len := len) (cap := cap) (d := d) (p := p) (fuel := fuel) hf
  exact ⟨a0, len, cap, Z, rfl, h1, h2, h3⟩

theorem ent_of {H : Type} {enc : TypeId × Value → H} {W : World} {fuel : Nat} {cs : List Value} {y : DataW H × List MemPlace} {a : Addr}
    (hc : W.cells? 0 a 3 = some cs) (hf : DataW.trod enc Tryz.prog W 0 (fun _ => true) true fuel 86 cs = some y) :
    ∃ x : Ent, ∀ j v, [Value.string x.name, .int .i64 x.id, .int .i64 x.kind][j]? = some v → W.cell? (a.add j) = some v := by
  obtain ⟨xs, n, _, _, hl, hn, hfs⟩ := DataW.trod_struct Tryz.underlying86 hf
  rw [cellsEnt] at hl
  obtain ⟨_, hlen, hcell⟩ := World.cells?_some hc
  match cs, hl with
  | [c0, c1, c2], _ =>
    match xs, hn with
    | [y0, y1, y2], _ =>
      have f0 : DataW.trod enc Tryz.prog W 0 (fun _ => true) true n 9 (([c0, c1, c2].drop 0).take (Tryz.prog.cellsOf 9)) = some y0 := hfs 0 _ rfl
      have f1 : DataW.trod enc Tryz.prog W 0 (fun _ => true) true n 3 (([c0, c1, c2].drop 1).take (Tryz.prog.cellsOf 3)) = some y1 := hfs 1 _ rfl
      have f2 : DataW.trod enc Tryz.prog W 0 (fun _ => true) true n 3 (([c0, c1, c2].drop 2).take (Tryz.prog.cellsOf 3)) = some y2 := hfs 2 _ rfl
      rw [cellsS] at f0
      rw [cells3] at f1 f2
      obtain ⟨s, e0, _, _⟩ := DataW.trod_string Tryz.underlying9 f0
      obtain ⟨X, e1, _, _⟩ := DataW.trod_int Tryz.underlying3 f1
      obtain ⟨K, e2, _, _⟩ := DataW.trod_int Tryz.underlying3 f2
      simp at e0 e1 e2
      subst e0 e1 e2
      refine ⟨⟨s, X, K⟩, fun j v hv => ?_⟩
      have hj : j < 3 := (List.getElem?_eq_some_iff.1 hv).1
      rw [hcell j hj]
      exact hv

theorem entCells_get3 : ∀ (l : List Ent) (t : Nat) (u : Value), (entCells l)[t]? = some u → ∃ h : t / 3 < l.length, [Value.string l[t / 3].name, .int .i64 l[t / 3].id, .int .i64 l[t / 3].kind][t % 3]? = some u
  | [], t, u, h => by simp [entCells] at h
  | e :: l, t, u, h => by
    by_cases ht : t < 3
    · have h0 : t / 3 = 0 := by omega
      have h1 : t % 3 = t := by omega
      refine ⟨by simp [h0], ?_⟩
      simp only [h0, h1, List.getElem_cons_zero]
      simp only [entCells, List.flatMap_cons] at h
      rwa [List.getElem?_append_left (by simpa using ht)] at h
    · obtain ⟨s, rfl⟩ : ∃ s, t = s + 3 := ⟨t - 3, by omega⟩
      have h2 : (s + 3) / 3 = s / 3 + 1 := by omega
      have h3 : (s + 3) % 3 = s % 3 := by omega
      have h4 : (entCells l)[s]? = some u := by
        simp only [entCells, List.flatMap_cons] at h
        rw [List.getElem?_append_right (by simp)] at h
        simpa [entCells] using h
      obtain ⟨h5, h6⟩ := entCells_get3 l s u h4
      refine ⟨by simp [h2]; omega, ?_⟩
      simp only [h2, h3, List.getElem_cons_succ]
      exact h6

theorem view_ents {H : Type} {enc : TypeId × Value → H} {W : World} {fuel : Nat} {cs : List Value} {y : DataW H × List MemPlace}
    (hf : DataW.trod enc Tryz.prog W 0 (fun _ => true) true fuel 28 cs = some y) :
    ∃ a0 len cap, ∃ l : List Ent, cs = [.slice a0 len cap] ∧ CLies W a0 len cap 3 (entCells l) ∧ l.length = len ∧ (len = 0 ∨ ∃ el sp, y.1 = .slice el sp ∧ el.length = len) := by
  rcases open_slice Tryz.underlying28 hf with ⟨hcs, hx⟩ | ⟨a, len, cap, m, n, D, Pl, hcs, _, hl, hm, hmm, hx, hel⟩
  · exact ⟨none, 0, 0, [], hcs, CLies.nil W 3, rfl, .inl rfl⟩
  · simp only [if_true] at hmm
    rw [cellsEnt] at hel
    have hinh : Inhabited Ent := ⟨⟨⟨#[]⟩, 0, 0⟩⟩
    obtain ⟨X, hX⟩ := choose_lt (α := Ent) (p := fun i x => ∀ j v, [Value.string x.name, .int .i64 x.id, .int .i64 x.kind][j]? = some v → W.cell? ((a.add (i * 3)).add j) = some v) (n := len) (fun i hi => by
      obtain ⟨cs', h1, h2⟩ := hel i (by omega)
      exact ent_of h1 h2)
    refine ⟨some a, len, cap, (List.range len).map X, hcs, ⟨by simp [entCells_length], hl, (fun h => by cases h), fun ad had t u hu => ?_⟩, by simp, .inr ⟨_, _, by rw [hx], by simp⟩⟩
    obtain rfl := Option.some.inj had
    obtain ⟨h1, h2⟩ := entCells_get3 _ t u hu
    simp at h1 h2
    have := hX (t / 3) h1 (t % 3) u h2
    have h0 := hX 0 (by omega) 0 _ rfl
    obtain ⟨b, o, spot⟩ := a
    have hspot : spot = none := by simpa [Addr.add] using World.cell?_spot h0
    subst hspot
    rw [Addr.add_lit, Addr.add_lit, show o + t / 3 * 3 + t % 3 = o + t by omega] at this
    rw [Addr.add_lit]
    exact this

theorem view_rq {H : Type} {enc : TypeId × Value → H} {W : World} {fuel : Nat} {cs : Array Value} {d : DataW H} {p : List MemPlace}
    (hf : DataW.trod enc Tryz.prog W 0 (fun _ => true) true fuel 24 (Value.agg cs).cells.toList = some (d, p)) :
    ∃ (r : Req) (ao : Option Addr) (k c : Nat), Value.agg cs = rqV r ao k c ∧ Lies W ao k c r.data ∧ Bys r.data ∧ (∀ n ∈ [r.path.size, r.name.size, r.name2.size], n ∈ d.weights Tryz.prog 24) := by
  obtain ⟨cs⟩ := cs
  replace hf : DataW.trod enc Tryz.prog W 0 (fun _ => true) true fuel 24 cs = some (d, p) := hf
  obtain ⟨xs, n, _, hd, hl, hn, hfs⟩ := DataW.trod_struct Tryz.underlying24 hf
  rw [cellsRq] at hl
  match cs, hl with
  | [c0, c1, c2, c3, c4, c5, c6, c7, c8, c9, c10, c11, c12], _ =>
    match xs, hn with
    | [y0, y1, y2, y3, y4, y5, y6, y7, y8, y9, y10, y11, y12], _ =>
      have f0 : DataW.trod enc Tryz.prog W 0 (fun _ => true) true n 3 (([c0, c1, c2, c3, c4, c5, c6, c7, c8, c9, c10, c11, c12].drop 0).take (Tryz.prog.cellsOf 3)) = some y0 := hfs 0 _ rfl
      have f1 : DataW.trod enc Tryz.prog W 0 (fun _ => true) true n 3 (([c0, c1, c2, c3, c4, c5, c6, c7, c8, c9, c10, c11, c12].drop 1).take (Tryz.prog.cellsOf 3)) = some y1 := hfs 1 _ rfl
      have f2 : DataW.trod enc Tryz.prog W 0 (fun _ => true) true n 3 (([c0, c1, c2, c3, c4, c5, c6, c7, c8, c9, c10, c11, c12].drop 2).take (Tryz.prog.cellsOf 3)) = some y2 := hfs 2 _ rfl
      have f3 : DataW.trod enc Tryz.prog W 0 (fun _ => true) true n 3 (([c0, c1, c2, c3, c4, c5, c6, c7, c8, c9, c10, c11, c12].drop 3).take (Tryz.prog.cellsOf 3)) = some y3 := hfs 3 _ rfl
      have f4 : DataW.trod enc Tryz.prog W 0 (fun _ => true) true n 3 (([c0, c1, c2, c3, c4, c5, c6, c7, c8, c9, c10, c11, c12].drop 4).take (Tryz.prog.cellsOf 3)) = some y4 := hfs 4 _ rfl
      have f5 : DataW.trod enc Tryz.prog W 0 (fun _ => true) true n 3 (([c0, c1, c2, c3, c4, c5, c6, c7, c8, c9, c10, c11, c12].drop 5).take (Tryz.prog.cellsOf 3)) = some y5 := hfs 5 _ rfl
      have f6 : DataW.trod enc Tryz.prog W 0 (fun _ => true) true n 3 (([c0, c1, c2, c3, c4, c5, c6, c7, c8, c9, c10, c11, c12].drop 6).take (Tryz.prog.cellsOf 3)) = some y6 := hfs 6 _ rfl
      have f7 : DataW.trod enc Tryz.prog W 0 (fun _ => true) true n 3 (([c0, c1, c2, c3, c4, c5, c6, c7, c8, c9, c10, c11, c12].drop 7).take (Tryz.prog.cellsOf 3)) = some y7 := hfs 7 _ rfl
      have f8 : DataW.trod enc Tryz.prog W 0 (fun _ => true) true n 3 (([c0, c1, c2, c3, c4, c5, c6, c7, c8, c9, c10, c11, c12].drop 8).take (Tryz.prog.cellsOf 3)) = some y8 := hfs 8 _ rfl
      have f9 : DataW.trod enc Tryz.prog W 0 (fun _ => true) true n 9 (([c0, c1, c2, c3, c4, c5, c6, c7, c8, c9, c10, c11, c12].drop 9).take (Tryz.prog.cellsOf 9)) = some y9 := hfs 9 _ rfl
      have f10 : DataW.trod enc Tryz.prog W 0 (fun _ => true) true n 9 (([c0, c1, c2, c3, c4, c5, c6, c7, c8, c9, c10, c11, c12].drop 10).take (Tryz.prog.cellsOf 9)) = some y10 := hfs 10 _ rfl
      have f11 : DataW.trod enc Tryz.prog W 0 (fun _ => true) true n 9 (([c0, c1, c2, c3, c4, c5, c6, c7, c8, c9, c10, c11, c12].drop 11).take (Tryz.prog.cellsOf 9)) = some y11 := hfs 11 _ rfl
      have f12 : DataW.trod enc Tryz.prog W 0 (fun _ => true) true n 22 (([c0, c1, c2, c3, c4, c5, c6, c7, c8, c9, c10, c11, c12].drop 12).take (Tryz.prog.cellsOf 22)) = some y12 := hfs 12 _ rfl
      rw [cells3] at f0
      rw [cells3] at f1
      rw [cells3] at f2
      rw [cells3] at f3
      rw [cells3] at f4
      rw [cells3] at f5
      rw [cells3] at f6
      rw [cells3] at f7
      rw [cells3] at f8
      rw [cellsS] at f9
      rw [cellsS] at f10
      rw [cellsS] at f11
      rw [cellsB] at f12
      obtain ⟨x0, e0, _, _⟩ := DataW.trod_int Tryz.underlying3 f0
      obtain ⟨x1, e1, _, _⟩ := DataW.trod_int Tryz.underlying3 f1
      obtain ⟨x2, e2, _, _⟩ := DataW.trod_int Tryz.underlying3 f2
      obtain ⟨x3, e3, _, _⟩ := DataW.trod_int Tryz.underlying3 f3
      obtain ⟨x4, e4, _, _⟩ := DataW.trod_int Tryz.underlying3 f4
      obtain ⟨x5, e5, _, _⟩ := DataW.trod_int Tryz.underlying3 f5
      obtain ⟨x6, e6, _, _⟩ := DataW.trod_int Tryz.underlying3 f6
      obtain ⟨x7, e7, _, _⟩ := DataW.trod_int Tryz.underlying3 f7
      obtain ⟨x8, e8, _, _⟩ := DataW.trod_int Tryz.underlying3 f8
      obtain ⟨x9, e9, k9, _⟩ := DataW.trod_string Tryz.underlying9 f9
      obtain ⟨x10, e10, k10, _⟩ := DataW.trod_string Tryz.underlying9 f10
      obtain ⟨x11, e11, k11, _⟩ := DataW.trod_string Tryz.underlying9 f11
      obtain ⟨ao, dl, dc, Z, e12, hL, hs, hZ⟩ := bytes_of f12
      simp at e0 e1 e2 e3 e4 e5 e6 e7 e8 e9 e10 e11 e12
      subst e0 e1 e2 e3 e4 e5 e6 e7 e8 e9 e10 e11 e12
      simp only [Prod.mk.injEq] at hd
      have hw : ∀ (j : Nat) (t : TypeId) (q : DataW H) (m : Nat), ([3, 3, 3, 3, 3, 3, 3, 3, 3, 9, 9, 9, 22] : List TypeId)[j]? = some t → [y0.1, y1.1, y2.1, y3.1, y4.1, y5.1, y6.1, y7.1, y8.1, y9.1, y10.1, y11.1, y12.1][j]? = some q → m ∈ q.weights Tryz.prog t → m ∈ d.weights Tryz.prog 24 := fun j t q m h1 h2 h3 => by
        rw [hd.1]
        simp only [DataW.weights, Tryz.underlying24]
        exact DataW.weights_mem_each h1 h2 m h3
      refine ⟨⟨x0, x1, x2, x3, x4, x5, x6, x7, x8, x9, x10, x11, Z⟩, ao, dl, dc, rfl, hL, hs, fun m hm => ?_⟩
      simp only [List.mem_cons, List.not_mem_nil, or_false] at hm
      rcases hm with rfl | rfl | rfl
      · exact (hw 9 _ _ _ rfl rfl (by rw [k9]; exact List.mem_singleton.2 rfl))
      · exact (hw 10 _ _ _ rfl rfl (by rw [k10]; exact List.mem_singleton.2 rfl))
      · exact (hw 11 _ _ _ rfl rfl (by rw [k11]; exact List.mem_singleton.2 rfl))

theorem attr_of {H : Type} {enc : TypeId × Value → H} {W : World} {fuel : Nat} {c0 c1 c2 c3 : Value} {y : DataW H × List MemPlace}
    (hf : DataW.trod enc Tryz.prog W 0 (fun _ => true) true fuel 27 [c0, c1, c2, c3] = some y) :
    ∃ i k z c : Int, c0 = .int .i64 i ∧ c1 = .int .i64 k ∧ c2 = .int .i64 z ∧ c3 = .int .i64 c := by
  obtain ⟨xs, n, _, hd, hl, hn, hfs⟩ := DataW.trod_struct Tryz.underlying27 hf
  match xs, hn with
  | [y0, y1, y2, y3], _ =>
    have f0 : DataW.trod enc Tryz.prog W 0 (fun _ => true) true n 3 (([c0, c1, c2, c3].drop 0).take (Tryz.prog.cellsOf 3)) = some y0 := hfs 0 _ rfl
    have f1 : DataW.trod enc Tryz.prog W 0 (fun _ => true) true n 3 (([c0, c1, c2, c3].drop 1).take (Tryz.prog.cellsOf 3)) = some y1 := hfs 1 _ rfl
    have f2 : DataW.trod enc Tryz.prog W 0 (fun _ => true) true n 3 (([c0, c1, c2, c3].drop 2).take (Tryz.prog.cellsOf 3)) = some y2 := hfs 2 _ rfl
    have f3 : DataW.trod enc Tryz.prog W 0 (fun _ => true) true n 3 (([c0, c1, c2, c3].drop 3).take (Tryz.prog.cellsOf 3)) = some y3 := hfs 3 _ rfl
    rw [cells3] at f0 f1 f2 f3
    obtain ⟨x0, e0, _, _⟩ := DataW.trod_int Tryz.underlying3 f0
    obtain ⟨x1, e1, _, _⟩ := DataW.trod_int Tryz.underlying3 f1
    obtain ⟨x2, e2, _, _⟩ := DataW.trod_int Tryz.underlying3 f2
    obtain ⟨x3, e3, _, _⟩ := DataW.trod_int Tryz.underlying3 f3
    simp at e0 e1 e2 e3
    exact ⟨x0, x1, x2, x3, e0, e1, e2, e3⟩

theorem view_rp {H : Type} {enc : TypeId × Value → H} {W : World} {fuel : Nat} {cs : Array Value} {d : DataW H} {p : List MemPlace}
    (hf : DataW.trod enc Tryz.prog W 0 (fun _ => true) true fuel 30 (Value.agg cs).cells.toList = some (d, p)) :
    ∃ (r : Rep) (ao : Option Addr) (k c : Nat) (lo : Option Addr) (ln lc : Nat), Value.agg cs = rpV r ao k c lo ln lc ∧ Lies W ao k c r.data ∧ Bys r.data ∧ CLies W lo ln lc 3 (entCells r.list) ∧ r.list.length = ln := by
  obtain ⟨cs⟩ := cs
  replace hf : DataW.trod enc Tryz.prog W 0 (fun _ => true) true fuel 30 cs = some (d, p) := hf
  obtain ⟨xs, n, _, hd, hl, hn, hfs⟩ := DataW.trod_struct Tryz.underlying30 hf
  rw [cellsRp] at hl
  match cs, hl with
  | [c0, c1, c2, c3, c4, c5, c6, c7, c8, c9, c10, c11], _ =>
    match xs, hn with
    | [y0, y1, y2, y3, y4, y5, y6, y7, y8], _ =>
      have f0 : DataW.trod enc Tryz.prog W 0 (fun _ => true) true n 3 (([c0, c1, c2, c3, c4, c5, c6, c7, c8, c9, c10, c11].drop 0).take (Tryz.prog.cellsOf 3)) = some y0 := hfs 0 _ rfl
      have f1 : DataW.trod enc Tryz.prog W 0 (fun _ => true) true n 3 (([c0, c1, c2, c3, c4, c5, c6, c7, c8, c9, c10, c11].drop 1).take (Tryz.prog.cellsOf 3)) = some y1 := hfs 1 _ rfl
      have f2 : DataW.trod enc Tryz.prog W 0 (fun _ => true) true n 3 (([c0, c1, c2, c3, c4, c5, c6, c7, c8, c9, c10, c11].drop 2).take (Tryz.prog.cellsOf 3)) = some y2 := hfs 2 _ rfl
      have f3 : DataW.trod enc Tryz.prog W 0 (fun _ => true) true n 3 (([c0, c1, c2, c3, c4, c5, c6, c7, c8, c9, c10, c11].drop 3).take (Tryz.prog.cellsOf 3)) = some y3 := hfs 3 _ rfl
      have f4 : DataW.trod enc Tryz.prog W 0 (fun _ => true) true n 25 (([c0, c1, c2, c3, c4, c5, c6, c7, c8, c9, c10, c11].drop 4).take (Tryz.prog.cellsOf 25)) = some y4 := hfs 4 _ rfl
      have f5 : DataW.trod enc Tryz.prog W 0 (fun _ => true) true n 27 (([c0, c1, c2, c3, c4, c5, c6, c7, c8, c9, c10, c11].drop 5).take (Tryz.prog.cellsOf 27)) = some y5 := hfs 5 _ rfl
      have f6 : DataW.trod enc Tryz.prog W 0 (fun _ => true) true n 22 (([c0, c1, c2, c3, c4, c5, c6, c7, c8, c9, c10, c11].drop 9).take (Tryz.prog.cellsOf 22)) = some y6 := hfs 6 _ rfl
      have f7 : DataW.trod enc Tryz.prog W 0 (fun _ => true) true n 28 (([c0, c1, c2, c3, c4, c5, c6, c7, c8, c9, c10, c11].drop 10).take (Tryz.prog.cellsOf 28)) = some y7 := hfs 7 _ rfl
      have f8 : DataW.trod enc Tryz.prog W 0 (fun _ => true) true n 4 (([c0, c1, c2, c3, c4, c5, c6, c7, c8, c9, c10, c11].drop 11).take (Tryz.prog.cellsOf 4)) = some y8 := hfs 8 _ rfl
      rw [cells3] at f0
      rw [cells3] at f1
      rw [cells3] at f2
      rw [cells3] at f3
      rw [cellsN] at f4
      rw [cellsAttr] at f5
      rw [cellsB] at f6
      rw [cellsL] at f7
      rw [cellsF] at f8
      obtain ⟨x0, e0, _, _⟩ := DataW.trod_int Tryz.underlying3 f0
      obtain ⟨x1, e1, _, _⟩ := DataW.trod_int Tryz.underlying3 f1
      obtain ⟨x2, e2, _, _⟩ := DataW.trod_int Tryz.underlying3 f2
      obtain ⟨x3, e3, _, _⟩ := DataW.trod_int Tryz.underlying3 f3
      obtain ⟨x4, e4, _, _⟩ := DataW.trod_int Tryz.underlying25 f4
      obtain ⟨g0, g1, g2, g3, u0, u1, u2, u3⟩ := attr_of (c0 := c5) (c1 := c6) (c2 := c7) (c3 := c8) f5
      obtain ⟨ao, dl, dc, Z, e6, hL, hs, hZ⟩ := bytes_of f6
      obtain ⟨lo, ln, lc, l, e7, hN, hel, hl⟩ := view_ents f7
      obtain ⟨x8, e8, _⟩ := DataW.trod_bool Tryz.underlying4 f8
      simp at e0 e1 e2 e3 e4 e6 e7 e8
      subst e0 e1 e2 e3 e4 e6 e7 e8 u0 u1 u2 u3
      exact ⟨⟨x0, x1, x2, x3, x4, g0, g1, g2, g3, Z, l, x8⟩, ao, dl, dc, lo, ln, lc, rfl, hL, hs, hN, hel⟩
end Go.Proofs.YtdkcplndplhblaaGreatDoor

/- How long the lists of a request and of a reply that came in can be. -/
namespace Go.Proofs.YtdkcplndplhblaaGreatDoor
open Go.ChangeShapes Go.WideShapes Go.ChangeAt Go.RowKit Go.Deep
set_option maxRecDepth 100000

theorem bytesEnt : Tryz.prog.bytesOf 86 = 32 := by kernel_rfl
theorem bytes_reach {H : Type} {enc : TypeId × Value → H} {W : World} {fuel : Nat} {ao : Option Addr} {k c : Nat} {y : DataW H × List MemPlace}
    (hf : DataW.trod enc Tryz.prog W 0 (fun _ => true) true fuel 22 [.slice ao k c] = some y) (hall : ∀ n ∈ y.1.weights Tryz.prog 22, n ≤ reachBytes) : k ≤ reachBytes := by
  obtain ⟨a', l', c', Z, e, hL, _, hZ⟩ := bytes_of hf
  cases e
  rcases hZ with h | ⟨sp, h⟩
  · omega
  · have h1 := hall (((lits (H := H) .u8 Z).length + sp.length) * Tryz.prog.bytesOf 5) (by rw [h]; simp [DataW.weights, Tryz.underlying22])
    have h2 : (lits (H := H) .u8 Z).length = k := by simp [lits, hL.hlen]
    rw [bytes5, h2] at h1
    omega
theorem ents_reach {H : Type} {enc : TypeId × Value → H} {W : World} {fuel : Nat} {ao : Option Addr} {k c : Nat} {y : DataW H × List MemPlace}
    (hf : DataW.trod enc Tryz.prog W 0 (fun _ => true) true fuel 28 [.slice ao k c] = some y) (hall : ∀ n ∈ y.1.weights Tryz.prog 28, n ≤ reachBytes) : k ≤ reachBytes := by
  obtain ⟨a', l', c', l, e, _, _, hZ⟩ := view_ents hf
  cases e
  rcases hZ with h | ⟨el, sp, h, hel⟩
  · omega
  · have h1 := hall ((el.length + sp.length) * Tryz.prog.bytesOf 86) (by rw [h]; simp [DataW.weights, Tryz.underlying28])
    rw [bytesEnt, hel] at h1
    omega
theorem rq_data {H : Type} {enc : TypeId × Value → H} {W : World} {fuel : Nat} {r : Req} {ao : Option Addr} {k c : Nat} {d : DataW H} {p : List MemPlace}
    (hf : DataW.trod enc Tryz.prog W 0 (fun _ => true) true fuel 24 (rqV r ao k c).cells.toList = some (d, p)) (hall : ∀ n ∈ d.weights Tryz.prog 24, n ≤ reachBytes) : k ≤ reachBytes := by
  obtain ⟨xs, n, _, hd, _, hn, hfs⟩ := DataW.trod_struct Tryz.underlying24 hf
  have f : DataW.trod enc Tryz.prog W 0 (fun _ => true) true n 22 (((rqV r ao k c).cells.toList.drop 12).take (Tryz.prog.cellsOf 22)) = xs[12]? := hfs 12 _ rfl
  rw [cellsB] at f
  replace f : DataW.trod enc Tryz.prog W 0 (fun _ => true) true n 22 [.slice ao k c] = xs[12]? := f
  have h12 : 12 < xs.length := by rw [hn]; decide
  have hy : xs[12]? = some xs[12] := by simp [h12]
  rw [hy] at f
  simp only [Prod.mk.injEq] at hd
  refine bytes_reach f fun m hm => hall m ?_
  rw [hd.1]
  simp only [DataW.weights, Tryz.underlying24]
  exact DataW.weights_mem_each (j := 12) (t := 22) (d := xs[12].1) rfl (by simp [h12]) m hm
theorem rp_data {H : Type} {enc : TypeId × Value → H} {W : World} {fuel : Nat} {r : Rep} {ao : Option Addr} {k c : Nat} {lo : Option Addr} {ln lc : Nat} {d : DataW H} {p : List MemPlace}
    (hf : DataW.trod enc Tryz.prog W 0 (fun _ => true) true fuel 30 (rpV r ao k c lo ln lc).cells.toList = some (d, p)) (hall : ∀ n ∈ d.weights Tryz.prog 30, n ≤ reachBytes) : k ≤ reachBytes ∧ ln ≤ reachBytes := by
  obtain ⟨xs, n, _, hd, _, hn, hfs⟩ := DataW.trod_struct Tryz.underlying30 hf
  have f : DataW.trod enc Tryz.prog W 0 (fun _ => true) true n 22 (((rpV r ao k c lo ln lc).cells.toList.drop 9).take (Tryz.prog.cellsOf 22)) = xs[6]? := hfs 6 _ rfl
  have g : DataW.trod enc Tryz.prog W 0 (fun _ => true) true n 28 (((rpV r ao k c lo ln lc).cells.toList.drop 10).take (Tryz.prog.cellsOf 28)) = xs[7]? := hfs 7 _ rfl
  rw [cellsB] at f
  rw [cellsL] at g
  replace f : DataW.trod enc Tryz.prog W 0 (fun _ => true) true n 22 [.slice ao k c] = xs[6]? := f
  replace g : DataW.trod enc Tryz.prog W 0 (fun _ => true) true n 28 [.slice lo ln lc] = xs[7]? := g
  have h6 : 6 < xs.length := by rw [hn]; decide
  have h7 : 7 < xs.length := by rw [hn]; decide
  have hy : xs[6]? = some xs[6] := by simp [h6]
  have hz : xs[7]? = some xs[7] := by simp [h7]
  rw [hy] at f
  rw [hz] at g
  simp only [Prod.mk.injEq] at hd
  refine ⟨bytes_reach f fun m hm => hall m ?_, ents_reach g fun m hm => hall m ?_⟩
  · rw [hd.1]
    simp only [DataW.weights, Tryz.underlying30]
    exact DataW.weights_mem_each (j := 6) (t := 22) (d := xs[6].1) rfl (by simp [h6]) m hm
  · rw [hd.1]
    simp only [DataW.weights, Tryz.underlying30]
    exact DataW.weights_mem_each (j := 7) (t := 28) (d := xs[7].1) rfl (by simp [h7]) m hm
theorem each_reach {H : Type} {ts : List TypeId} {ds : List (DataW H)} (hsz : (DataW.weightsEach Tryz.prog ts ds).all (· ≤ reachBytes) = true) {j : Nat} {t : TypeId} {d : DataW H} (ht : ts[j]? = some t) (hd : ds[j]? = some d) : ∀ n ∈ d.weights Tryz.prog t, n ≤ reachBytes := fun n hn => by
  simpa using List.all_eq_true.1 hsz n (DataW.weights_mem_each ht hd n hn)
end Go.Proofs.YtdkcplndplhblaaGreatDoor

/- A request and a reply that came in, and how much they weigh. -/
namespace Go.Proofs.YtdkcplndplhblaaGreatDoor
open Go.ChangeShapes Go.WideShapes Go.ChangeAt Go.RowKit Go.Deep
set_option maxRecDepth 100000

theorem bulk_one {H : Type} (d : DataW H) : 1 ≤ Rows.uptoBulk d := by
  cases d with
  | lit l => cases l <;> simp [Rows.uptoBulk]
  | nil => simp [Rows.uptoBulk]
  | ptr d => simp [Rows.uptoBulk]
  | slice elems spare => simp [Rows.uptoBulk]
  | agg parts => simp [Rows.uptoBulk]
  | iface t d => simp [Rows.uptoBulk]
  | map entries => simp [Rows.uptoBulk]
  | held h => simp [Rows.uptoBulk]
theorem bulk_length {H : Type} (l : List (DataW H)) : l.length ≤ Rows.uptoBulkAll l := by
  induction l with
  | nil => simp
  | cons x r ih => have := bulk_one x; simp only [Rows.uptoBulkAll, List.length_cons]; omega
theorem bulk_slice {H : Type} (el sp : List (DataW H)) : Rows.uptoBulkAll el + 1 ≤ Rows.uptoBulk (.slice el sp) := by
  simp only [Rows.uptoBulk]; omega
theorem bulk_at {H : Type} : ∀ (l : List (DataW H)) (j : Nat) (x : DataW H), l[j]? = some x → Rows.uptoBulk x ≤ Rows.uptoBulkAll l
  | [], j, x, h => by simp at h
  | y :: l, 0, x, h => by simp at h; subst h; simp only [Rows.uptoBulkAll]; omega
  | y :: l, j + 1, x, h => by
    have := bulk_at l j x (by simpa using h)
    simp only [Rows.uptoBulkAll]; omega
theorem bulk_agg {H : Type} (l : List (DataW H)) (j : Nat) (x : DataW H) (h : l[j]? = some x) : Rows.uptoBulk x + 1 ≤ Rows.uptoBulk (.agg l) := by
  have := bulk_at l j x h
  simp only [Rows.uptoBulk]; omega
theorem bytes_bulk {H : Type} {enc : TypeId × Value → H} {W : World} {fuel : Nat} {ao : Option Addr} {k c : Nat} {y : DataW H × List MemPlace}
    (hf : DataW.trod enc Tryz.prog W 0 (fun _ => true) true fuel 22 [.slice ao k c] = some y) : k + 1 ≤ Rows.uptoBulk y.1 := by
  obtain ⟨a', l', c', Z, e, hL, _, hZ⟩ := bytes_of hf
  cases e
  rcases hZ with h | ⟨sp, h⟩
  · have := bulk_one y.1; omega
  · have e1 := bulk_slice (H := H) (lits .u8 Z) sp
    have e2 := bulk_length (H := H) (lits .u8 Z)
    have e3 : (lits (H := H) .u8 Z).length = k := by simp [lits, hL.hlen]
    rw [h]; omega
theorem ents_bulk {H : Type} {enc : TypeId × Value → H} {W : World} {fuel : Nat} {ao : Option Addr} {k c : Nat} {y : DataW H × List MemPlace}
    (hf : DataW.trod enc Tryz.prog W 0 (fun _ => true) true fuel 28 [.slice ao k c] = some y) : k + 1 ≤ Rows.uptoBulk y.1 := by
  obtain ⟨a', l', c', l, e, _, _, hZ⟩ := view_ents hf
  cases e
  rcases hZ with h | ⟨el, sp, h, hel⟩
  · have := bulk_one y.1; omega
  · have e1 := bulk_slice (H := H) el sp
    have e2 := bulk_length (H := H) el
    rw [h]; omega
theorem rq_bulk {H : Type} {enc : TypeId × Value → H} {W : World} {fuel : Nat} {r : Req} {ao : Option Addr} {k c : Nat} {d : DataW H} {p : List MemPlace}
    (hf : DataW.trod enc Tryz.prog W 0 (fun _ => true) true fuel 24 (rqV r ao k c).cells.toList = some (d, p)) : k ≤ Rows.uptoBulk d ∧ r.path.size ≤ Rows.uptoBulk d := by
  obtain ⟨xs, n, _, hd, _, hn, hfs⟩ := DataW.trod_struct Tryz.underlying24 hf
  have f : DataW.trod enc Tryz.prog W 0 (fun _ => true) true n 22 (((rqV r ao k c).cells.toList.drop 12).take (Tryz.prog.cellsOf 22)) = xs[12]? := hfs 12 _ rfl
  have g : DataW.trod enc Tryz.prog W 0 (fun _ => true) true n 9 (((rqV r ao k c).cells.toList.drop 9).take (Tryz.prog.cellsOf 9)) = xs[9]? := hfs 9 _ rfl
  rw [cellsB] at f
  rw [cellsS] at g
  replace f : DataW.trod enc Tryz.prog W 0 (fun _ => true) true n 22 [.slice ao k c] = xs[12]? := f
  replace g : DataW.trod enc Tryz.prog W 0 (fun _ => true) true n 9 [.string r.path] = xs[9]? := g
  have h12 : 12 < xs.length := by rw [hn]; decide
  have h9 : 9 < xs.length := by rw [hn]; decide
  have hy : xs[12]? = some xs[12] := by simp [h12]
  have hz : xs[9]? = some xs[9] := by simp [h9]
  rw [hy] at f
  rw [hz] at g
  simp only [Prod.mk.injEq] at hd
  have b1 := bytes_bulk f
  obtain ⟨x9, e9, k9, _⟩ := DataW.trod_string Tryz.underlying9 g
  cases e9
  have b2 : r.path.size ≤ Rows.uptoBulk xs[9].1 := by
    rw [k9]
    simp only [Rows.uptoBulk]
    rw [N3.size_bs]
    exact Nat.le_succ _
  have a1 := bulk_agg (xs.map (·.1)) 12 xs[12].1 (by simp [h12])
  have a2 := bulk_agg (xs.map (·.1)) 9 xs[9].1 (by simp [h9])
  rw [hd.1]
  omega
theorem rp_bulk {H : Type} {enc : TypeId × Value → H} {W : World} {fuel : Nat} {r : Rep} {ao : Option Addr} {k c : Nat} {lo : Option Addr} {ln lc : Nat} {d : DataW H} {p : List MemPlace}
    (hf : DataW.trod enc Tryz.prog W 0 (fun _ => true) true fuel 30 (rpV r ao k c lo ln lc).cells.toList = some (d, p)) : k ≤ Rows.uptoBulk d ∧ ln ≤ Rows.uptoBulk d := by
  obtain ⟨xs, n, _, hd, _, hn, hfs⟩ := DataW.trod_struct Tryz.underlying30 hf
  have f : DataW.trod enc Tryz.prog W 0 (fun _ => true) true n 22 (((rpV r ao k c lo ln lc).cells.toList.drop 9).take (Tryz.prog.cellsOf 22)) = xs[6]? := hfs 6 _ rfl
  have g : DataW.trod enc Tryz.prog W 0 (fun _ => true) true n 28 (((rpV r ao k c lo ln lc).cells.toList.drop 10).take (Tryz.prog.cellsOf 28)) = xs[7]? := hfs 7 _ rfl
  rw [cellsB] at f
  rw [cellsL] at g
  replace f : DataW.trod enc Tryz.prog W 0 (fun _ => true) true n 22 [.slice ao k c] = xs[6]? := f
  replace g : DataW.trod enc Tryz.prog W 0 (fun _ => true) true n 28 [.slice lo ln lc] = xs[7]? := g
  have h6 : 6 < xs.length := by rw [hn]; decide
  have h7 : 7 < xs.length := by rw [hn]; decide
  have hy : xs[6]? = some xs[6] := by simp [h6]
  have hz : xs[7]? = some xs[7] := by simp [h7]
  rw [hy] at f
  rw [hz] at g
  simp only [Prod.mk.injEq] at hd
  have b1 := bytes_bulk f
  have b2 := ents_bulk g
  have a1 := bulk_agg (xs.map (·.1)) 6 xs[6].1 (by simp [h6])
  have a2 := bulk_agg (xs.map (·.1)) 7 xs[7].1 (by simp [h7])
  rw [hd.1]
  omega
end Go.Proofs.YtdkcplndplhblaaGreatDoor

/- Lists of requests, of replies that came in, opened once; what their bulk says. -/
namespace Go.Proofs.YtdkcplndplhblaaGreatDoor
open Go.ChangeShapes Go.WideShapes Go.ChangeAt Go.RowKit Go.Deep
set_option maxRecDepth 100000

/-- A request that came in: what it is, where its lists lie. -/
structure RqIn where
  r : Req
  ao : Option Addr
  k : Nat
  c : Nat
theorem rq_of {H : Type} {enc : TypeId × Value → H} {W : World} {fuel : Nat} {cs : List Value} {D : DataW H} {pl : List MemPlace} {a : Addr}
    (hc : W.cells? 0 a 13 = some cs) (hf : DataW.trod enc Tryz.prog W 0 (fun _ => true) true fuel 24 cs = some (D, pl)) :
    ∃ x : RqIn, (∀ j v, (rqL x.r ⟨x.ao, x.k, x.c⟩)[j]? = some v → W.cell? (a.add j) = some v) ∧ (Lies W x.ao x.k x.c x.r.data ∧ Bys x.r.data) ∧ (x.k ≤ Rows.uptoBulk D ∧ x.r.path.size ≤ Rows.uptoBulk D) := by
  obtain ⟨_, hlen, hcell⟩ := World.cells?_some hc
  obtain ⟨r, ao, k, c, hr, hL, hB, _⟩ := view_rq (cs := ⟨cs⟩) hf
  have hcs : cs = rqL r ⟨ao, k, c⟩ := by
    simp only [rqV, Value.agg.injEq] at hr
    exact congrArg Array.toList hr
  have hb := rq_bulk (fuel := fuel) (p := pl) (d := D) (by rw [← hr]; exact hf)
  refine ⟨⟨r, ao, k, c⟩, fun j v hv => ?_, ⟨hL, hB⟩, hb⟩
  have hj : j < 13 := (List.getElem?_eq_some_iff.1 hv).1
  rw [hcell j hj, hcs]
  exact hv
theorem view_rqs {H : Type} {enc : TypeId × Value → H} {W : World} {fuel : Nat} {a0 : Option Addr} {len cap : Nat} {d : DataW H} {p : List MemPlace}
    (hf : DataW.trod enc Tryz.prog W 0 (fun _ => true) true fuel 52 (Value.slice a0 len cap).cells.toList = some (d, p)) :
    ∃ xs : List RqIn, xs.length = len ∧ (0 < len → ∃ b o, a0 = some ⟨b, o, none⟩) ∧
      (∀ b o, a0 = some ⟨b, o, none⟩ → ∀ i (h : i < xs.length), W.rangeAt b (o + i * 13) (rqL (xs[i]).r ⟨(xs[i]).ao, (xs[i]).k, (xs[i]).c⟩)) ∧ (∀ x ∈ xs, (Lies W x.ao x.k x.c x.r.data ∧ Bys x.r.data) ∧ (x.k ≤ Rows.uptoBulk d ∧ x.r.path.size ≤ Rows.uptoBulk d)) ∧ len ≤ Rows.uptoBulk d := by
  rcases open_slice Tryz.underlying52 hf with ⟨hcs, hx⟩ | ⟨a, len', cap', m, n, D, Pl, hcs, _, hl, hm, hmm, hx, hel⟩
  · simp [Value.cells] at hcs
    obtain ⟨rfl, rfl, rfl⟩ := hcs
    exact ⟨[], rfl, fun h => absurd h (by omega), (fun b o h => by cases h), (fun x hx => by cases hx), Nat.zero_le _⟩
  · simp [Value.cells] at hcs
    obtain ⟨rfl, rfl, rfl⟩ := hcs
    simp only [if_true] at hmm
    subst hmm
    rw [cellsRq] at hel
    have hinh : Inhabited RqIn := ⟨⟨⟨0, 0, 0, 0, 0, 0, 0, 0, 0, ⟨#[]⟩, ⟨#[]⟩, ⟨#[]⟩, []⟩, none, 0, 0⟩⟩
    obtain ⟨X, hX⟩ := choose_lt (α := RqIn) (p := fun i x => (∀ j v, (rqL x.r ⟨x.ao, x.k, x.c⟩)[j]? = some v → W.cell? ((a.add (i * 13)).add j) = some v) ∧ (Lies W x.ao x.k x.c x.r.data ∧ Bys x.r.data) ∧ (x.k ≤ Rows.uptoBulk (D i) ∧ x.r.path.size ≤ Rows.uptoBulk (D i))) (n := len) (fun i hi => by
      obtain ⟨cs', h1, h2⟩ := hel i (by omega)
      exact rq_of h1 h2)
    simp only [Prod.mk.injEq] at hx
    have hbk : ∀ i, i < len → Rows.uptoBulk (D i) ≤ Rows.uptoBulk d := fun i hi => by
      rw [hx.1]
      have h1 := bulk_slice (H := H) ((List.range len).map D) ((List.range (m - len)).map fun j => D (len + j))
      have h2 := bulk_at ((List.range len).map D) i (D i) (by simp [hi])
      omega
    refine ⟨(List.range len).map X, by simp, fun h0 => ?_, fun b o hbo i hi j v hv => ?_, fun x hx => ?_, ?_⟩
    · obtain ⟨b, o, spot⟩ := a
      have h := (hX 0 h0).1 0 _ rfl
      have hspot : spot = none := by simpa [Addr.add] using World.cell?_spot h
      subst hspot
      exact ⟨b, o, rfl⟩
    · obtain rfl := Option.some.inj hbo
      simp at hi hv
      have := (hX i hi).1 j v hv
      rwa [Addr.add_lit, Addr.add_lit] at this
    · obtain ⟨i, hi, rfl⟩ := List.mem_map.1 hx
      have hi' : i < len := by simpa using hi
      have h1 := (hX i hi').2
      have h2 := hbk i hi'
      exact ⟨h1.1, by omega, by omega⟩
    · rw [hx.1]
      have h1 := bulk_slice (H := H) ((List.range len).map D) ((List.range (m - len)).map fun j => D (len + j))
      have h2 := bulk_length ((List.range len).map D)
      simp at h2
      omega
/-- A reply that came in: what it is, where its lists lie. -/
structure RpIn where
  r : Rep
  ao : Option Addr
  k : Nat
  c : Nat
  lo : Option Addr
  ln : Nat
  lc : Nat
theorem rp_of {H : Type} {enc : TypeId × Value → H} {W : World} {fuel : Nat} {cs : List Value} {D : DataW H} {pl : List MemPlace} {a : Addr}
    (hc : W.cells? 0 a 12 = some cs) (hf : DataW.trod enc Tryz.prog W 0 (fun _ => true) true fuel 30 cs = some (D, pl)) :
    ∃ x : RpIn, (∀ j v, (rpL x.r (⟨x.ao, x.k, x.c⟩, ⟨x.lo, x.ln, x.lc⟩))[j]? = some v → W.cell? (a.add j) = some v) ∧ (Lies W x.ao x.k x.c x.r.data ∧ Bys x.r.data ∧ CLies W x.lo x.ln x.lc 3 (entCells x.r.list) ∧ x.r.list.length = x.ln) ∧ (x.k ≤ Rows.uptoBulk D ∧ x.ln ≤ Rows.uptoBulk D) := by
  obtain ⟨_, hlen, hcell⟩ := World.cells?_some hc
  obtain ⟨r, ao, k, c, lo, ln, lc, hr, hL, hB, hN, hel⟩ := view_rp (cs := ⟨cs⟩) hf
  have hcs : cs = rpL r (⟨ao, k, c⟩, ⟨lo, ln, lc⟩) := by
    simp only [rpV, Value.agg.injEq] at hr
    exact congrArg Array.toList hr
  have hb := rp_bulk (fuel := fuel) (p := pl) (d := D) (by rw [← hr]; exact hf)
  refine ⟨⟨r, ao, k, c, lo, ln, lc⟩, fun j v hv => ?_, ⟨hL, hB, hN, hel⟩, hb⟩
  have hj : j < 12 := (List.getElem?_eq_some_iff.1 hv).1
  rw [hcell j hj, hcs]
  exact hv
theorem view_rps {H : Type} {enc : TypeId × Value → H} {W : World} {fuel : Nat} {a0 : Option Addr} {len cap : Nat} {d : DataW H} {p : List MemPlace}
    (hf : DataW.trod enc Tryz.prog W 0 (fun _ => true) true fuel 53 (Value.slice a0 len cap).cells.toList = some (d, p)) :
    ∃ xs : List RpIn, xs.length = len ∧ (0 < len → ∃ b o, a0 = some ⟨b, o, none⟩) ∧
      (∀ b o, a0 = some ⟨b, o, none⟩ → ∀ i (h : i < xs.length), W.rangeAt b (o + i * 12) (rpL (xs[i]).r (⟨(xs[i]).ao, (xs[i]).k, (xs[i]).c⟩, ⟨(xs[i]).lo, (xs[i]).ln, (xs[i]).lc⟩))) ∧ (∀ x ∈ xs, (Lies W x.ao x.k x.c x.r.data ∧ Bys x.r.data ∧ CLies W x.lo x.ln x.lc 3 (entCells x.r.list) ∧ x.r.list.length = x.ln) ∧ (x.k ≤ Rows.uptoBulk d ∧ x.ln ≤ Rows.uptoBulk d)) ∧ len ≤ Rows.uptoBulk d := by
  rcases open_slice Tryz.underlying53 hf with ⟨hcs, hx⟩ | ⟨a, len', cap', m, n, D, Pl, hcs, _, hl, hm, hmm, hx, hel⟩
  · simp [Value.cells] at hcs
    obtain ⟨rfl, rfl, rfl⟩ := hcs
    exact ⟨[], rfl, fun h => absurd h (by omega), (fun b o h => by cases h), (fun x hx => by cases hx), Nat.zero_le _⟩
  · simp [Value.cells] at hcs
    obtain ⟨rfl, rfl, rfl⟩ := hcs
    simp only [if_true] at hmm
    subst hmm
    rw [cellsRp] at hel
    have hinh : Inhabited RpIn := ⟨⟨⟨0, 0, 0, 0, 0, 0, 0, 0, 0, [], [], false⟩, none, 0, 0, none, 0, 0⟩⟩
    obtain ⟨X, hX⟩ := choose_lt (α := RpIn) (p := fun i x => (∀ j v, (rpL x.r (⟨x.ao, x.k, x.c⟩, ⟨x.lo, x.ln, x.lc⟩))[j]? = some v → W.cell? ((a.add (i * 12)).add j) = some v) ∧ (Lies W x.ao x.k x.c x.r.data ∧ Bys x.r.data ∧ CLies W x.lo x.ln x.lc 3 (entCells x.r.list) ∧ x.r.list.length = x.ln) ∧ (x.k ≤ Rows.uptoBulk (D i) ∧ x.ln ≤ Rows.uptoBulk (D i))) (n := len) (fun i hi => by
      obtain ⟨cs', h1, h2⟩ := hel i (by omega)
      exact rp_of h1 h2)
    simp only [Prod.mk.injEq] at hx
    have hbk : ∀ i, i < len → Rows.uptoBulk (D i) ≤ Rows.uptoBulk d := fun i hi => by
      rw [hx.1]
      have h1 := bulk_slice (H := H) ((List.range len).map D) ((List.range (m - len)).map fun j => D (len + j))
      have h2 := bulk_at ((List.range len).map D) i (D i) (by simp [hi])
      omega
    refine ⟨(List.range len).map X, by simp, fun h0 => ?_, fun b o hbo i hi j v hv => ?_, fun x hx => ?_, ?_⟩
    · obtain ⟨b, o, spot⟩ := a
      have h := (hX 0 h0).1 0 _ rfl
      have hspot : spot = none := by simpa [Addr.add] using World.cell?_spot h
      subst hspot
      exact ⟨b, o, rfl⟩
    · obtain rfl := Option.some.inj hbo
      simp at hi hv
      have := (hX i hi).1 j v hv
      rwa [Addr.add_lit, Addr.add_lit] at this
    · obtain ⟨i, hi, rfl⟩ := List.mem_map.1 hx
      have hi' : i < len := by simpa using hi
      have h1 := (hX i hi').2
      have h2 := hbk i hi'
      exact ⟨h1.1, by omega, by omega⟩
    · rw [hx.1]
      have h1 := bulk_slice (H := H) ((List.range len).map D) ((List.range (m - len)).map fun j => D (len + j))
      have h2 := bulk_length ((List.range len).map D)
      simp at h2
      omega
end Go.Proofs.YtdkcplndplhblaaGreatDoor

/- MsgOwn by its contract. -/
namespace Go.Proofs.YtdkcplndplhblaaGreatDoor
open Go.RowKit
set_option maxRecDepth 100000

theorem lies_blk {w : World} {ao : Option Addr} {len cap : Nat} {bs : List Int} (h : Lies w ao len cap bs) : ∀ ad, ao = some ad → 0 < len → ad.block < w.heap.size := fun ad had hl => by
  have h0 : 0 < bs.length := by rw [h.hlen]; exact hl
  have := World.block_lt_of_cell? w _ (h.hcells ad had 0 (.int .u8 bs[0]) (by simp [h0]))
  rwa [add_block] at this
theorem clies_blk {w : World} {ao : Option Addr} {n cap k : Nat} {cs : List Value} (h : CLies w ao n cap k cs) (hk : 0 < k) : ∀ ad, ao = some ad → 0 < n → ad.block < w.heap.size := fun ad had hl => by
  have h0 : 0 < cs.length := by rw [h.hlen]; exact Nat.mul_pos hl hk
  have := World.block_lt_of_cell? w _ (h.hcells ad had 0 cs[0] (by simp [h0]))
  rwa [add_block] at this
theorem range_low {w w' : World} {b o : Nat} {xs : List Value} (h : w.rangeAt b o xs) (hb : Below w.heap.size w w') : w'.rangeAt b o xs := fun j v hv => by
  have hc := h j v hv
  exact (hb.cell (World.block_lt_of_cell? w _ hc)).trans hc

/-- The book while MsgOwn goes on: m requests, k replies are in. -/
structure OwnSt (w : World) (bk m k : Nat) (wr : World) : Prop where
  ex : ∃ vE B C es fs i i', Bk wr w.heap.size bk vE B es ∧ Ek wr w.heap.size vE C fs ∧ (∀ k, B k → w.heap.size ≤ k ∧ k < wr.heap.size) ∧ (∀ k, C k → w.heap.size ≤ k ∧ k < wr.heap.size ∧ ¬ B k) ∧ es.length = 3 * i ∧ i ≤ 6 * (m + k) ∧ fs.length = 3 * i' ∧ i' ≤ 4 * k ∧ (∀ e ∈ es, e.len ≤ 2000000) ∧ (∀ e ∈ fs, e.len ≤ 2000000)
  fr : Below w.heap.size w wr
theorem OwnSt.start {w w1 : World} (hb : Below w.heap.size w w1) : OwnSt w w1.heap.size 0 0 (w1.alloc (.cells #[.slice none 0 0, .slice none 0 0, .slice none 0 0] 59)) := by
  have hs := hb.size
  refine ⟨⟨.slice none 0 0, fun k => k = w1.heap.size, fun _ => False, [], [], 0, 0, ⟨⟨.slice none 0 0, .slice none 0 0, heap_alloc_new w1 _, ⟨rfl, Or.inl ⟨rfl, rfl⟩⟩, ⟨rfl, Or.inl ⟨rfl, rfl⟩⟩, (fun k h => by cases h), (fun k h => by cases h)⟩, ⟨hs, rfl⟩, (fun i h => by simp at h), (fun e h => by cases h)⟩, ⟨⟨rfl, Or.inl ⟨rfl, rfl⟩⟩, (fun k h => by cases h), (fun i h => by simp at h), (fun e h => by cases h)⟩, (fun k h => by subst h; simp; omega), (fun k h => h.elim), rfl, by omega, rfl, by omega, by simp, by simp⟩, hb.alloc hs _⟩
theorem requests_st {w wr : World} {bk m k : Nat} (h : OwnSt w bk m k wr) (hm : m + k ≤ 3000000) {x : RqIn} {er : Nat → Addr} (hE : Errs w er) (hL : Lies w x.ao x.k x.c x.r.data) (hby : Bys x.r.data) (hn : x.k ≤ 1048576) (hp : x.r.path.size ≤ 1048576) :
    Calls Tryz.prog 23 #[.pointer (some ⟨bk, 0, none⟩), rqV x.r x.ao x.k x.c] wr fun e w' => e = .returned (.bool true) ∧ OwnSt w bk (m + 1) k w' := by
  obtain ⟨⟨vE, B, C, es, fs, i, i', hB, hK, hBl, hCl, hes, hi, hfs, hi', hse, hsf⟩, hfr⟩ := h
  refine (requests_any w.heap.size bk i vE B C es fs x.r x.ao x.k x.c er wr (hE.below hfr (Nat.le_refl _)) hfr.size hB hK hBl (fun k q => (hCl k q).2) hes (by omega) (lies_low hL hfr (lies_blk hL)) (lies_blk hL) hn (by omega) hby).mono ?_
  rintro e w' ⟨rfl, B', es', hB', j, hj, hj6, hs', hK', hnew, hfr'⟩
  refine ⟨rfl, ⟨vE, B', C, es ++ es', fs, i + j, i', hB', hK', fun k q => ?_, fun k q => ?_, by rw [List.length_append]; omega, by omega, hfs, by omega, fun e he => (List.mem_append.1 he).elim (hse e) (hs' e), hsf⟩, hfr.trans hfr'⟩
  · have h1 := hfr'.size
    have h2 := hfr.size
    rcases hnew k q with q | q
    · have := hBl k q; omega
    · omega
  · have h1 := hfr'.size
    have h2 := hCl k q
    refine ⟨h2.1, by omega, fun r => ?_⟩
    rcases hnew k r with r | r
    · exact h2.2.2 r
    · omega
theorem replies_st {w wr : World} {bk m k : Nat} (h : OwnSt w bk m k wr) (hm : m + k ≤ 3000000) {x : RpIn} {er : Nat → Addr} (hE : Errs w er) (hL : Lies w x.ao x.k x.c x.r.data) (hby : Bys x.r.data) (hN : CLies w x.lo x.ln x.lc 3 (entCells x.r.list)) (hel : x.r.list.length = x.ln) (hn : x.k ≤ 1048576) (hp : x.ln ≤ 1048576) :
    Calls Tryz.prog 24 #[.pointer (some ⟨bk, 0, none⟩), rpV x.r x.ao x.k x.c x.lo x.ln x.lc] wr fun e w' => e = .returned (.bool true) ∧ OwnSt w bk m (k + 1) w' := by
  obtain ⟨⟨vE, B, C, es, fs, i, i', hB, hK, hBl, hCl, hes, hi, hfs, hi', hse, hsf⟩, hfr⟩ := h
  refine (replies_any w.heap.size bk i i' vE B C es fs x.r x.ao x.k x.c x.lo x.ln x.lc er wr (hE.below hfr (Nat.le_refl _)) hfr.size hB hK hBl hCl hes hfs (by omega) (by omega) (lies_low hL hfr (lies_blk hL)) (lies_blk hL) hn hby (clies_low hN hfr (clies_blk hN (by omega))) (clies_blk hN (by omega)) hp hel).mono ?_
  rintro e w' ⟨rfl, ⟨vE', B', C', es', fs', j, j', hB', hK', hj, hj6, hj', hj4, hs', hf', hBl', hCl', hfr'⟩⟩
  exact ⟨rfl, ⟨vE', B', C', es ++ es', fs ++ fs', i + j, i' + j', hB', hK', hBl', hCl', by rw [List.length_append]; omega, by omega, by rw [List.length_append]; omega, by omega, fun e he => (List.mem_append.1 he).elim (hse e) (hs' e), fun e he => (List.mem_append.1 he).elim (hsf e) (hf' e)⟩, hfr.trans hfr'⟩
theorem whole_st {w wr : World} {bk m k : Nat} (h : OwnSt w bk m k wr) (hm : m + k ≤ 3000000) : Calls Tryz.prog 25 #[.pointer (some ⟨bk, 0, none⟩)] wr fun e w' => e = .returned (.bool true) ∧ Below wr.heap.size wr w' := by
  obtain ⟨⟨vE, B, C, es, fs, i, i', hB, hK, hBl, hCl, hes, hi, hfs, hi', hse, hsf⟩, hfr⟩ := h
  exact bkWhole_any vE w.heap.size bk B es wr hB (by omega) (fun e he => by have := hse e he; omega)
theorem stand_st {w wr : World} {bk m k : Nat} (h : OwnSt w bk m k wr) (hm : m + k ≤ 3000000) : Calls Tryz.prog 26 #[.pointer (some ⟨bk, 0, none⟩)] wr fun e w' => e = .returned (.bool true) ∧ Below wr.heap.size wr w' := by
  obtain ⟨⟨vE, B, C, es, fs, i, i', hB, hK, hBl, hCl, hes, hi, hfs, hi', hse, hsf⟩, hfr⟩ := h
  exact stand_any w.heap.size bk vE B C es fs wr hB hK (by omega) (fun e he => by have := hsf e he; omega)
theorem OwnSt.below {w wr w' : World} {bk m k : Nat} (h : OwnSt w bk m k wr) (hb : Below wr.heap.size wr w') : OwnSt w bk m k w' := by
  obtain ⟨⟨vE, B, C, es, fs, i, i', hB, hK, hBl, hCl, r⟩, hfr⟩ := h
  have hs := hb.size
  exact ⟨⟨vE, B, C, es, fs, i, i', hB.below hb, hK.below hb, fun k q => by have := hBl k q; omega, fun k q => ⟨(hCl k q).1, Nat.lt_of_lt_of_le (hCl k q).2.1 hs, (hCl k q).2.2⟩, r⟩, hfr.trans (hb.mono hfr.size)⟩

attribute [local go_sem ↓ 100000] rqex_load rpex_load
set_option maxHeartbeats 4000000 in
theorem own_any (xs : List RqIn) (a0 : Option Addr) (len cap : Nat) (ys : List RpIn) (b0 : Option Addr) (len2 cap2 : Nat) (er : Nat → Addr) (w : World) (hE : Errs w er)
    (hxl : xs.length = len) (hxa : 0 < len → ∃ b o, a0 = some ⟨b, o, none⟩) (hxr : ∀ b o, a0 = some ⟨b, o, none⟩ → ∀ i (h : i < xs.length), w.rangeAt b (o + i * 13) (rqL (xs[i]).r ⟨(xs[i]).ao, (xs[i]).k, (xs[i]).c⟩)) (hxc : ∀ x ∈ xs, (Lies w x.ao x.k x.c x.r.data ∧ Bys x.r.data) ∧ x.k ≤ 1048576 ∧ x.r.path.size ≤ 1048576) (hx : len ≤ 1048576)
    (hyl : ys.length = len2) (hya : 0 < len2 → ∃ b o, b0 = some ⟨b, o, none⟩) (hyr : ∀ b o, b0 = some ⟨b, o, none⟩ → ∀ i (h : i < ys.length), w.rangeAt b (o + i * 12) (rpL (ys[i]).r (⟨(ys[i]).ao, (ys[i]).k, (ys[i]).c⟩, ⟨(ys[i]).lo, (ys[i]).ln, (ys[i]).lc⟩))) (hyc : ∀ x ∈ ys, (Lies w x.ao x.k x.c x.r.data ∧ Bys x.r.data ∧ CLies w x.lo x.ln x.lc 3 (entCells x.r.list) ∧ x.r.list.length = x.ln) ∧ x.k ≤ 1048576 ∧ x.ln ≤ 1048576) (hy : len2 ≤ 1048576) :
    Calls Tryz.prog 5 #[.slice a0 len cap, .slice b0 len2 cap2] w fun e w' => e = .returned (.bool true) ∧ Below w.heap.size w w' := by
  have HXL : Hid (xs.length = len) := hxl
  have HYL : Hid (ys.length = len2) := hyl
  clear hxl hyl
  have hxi : (len : Int) ≤ 1048576 := by omega
  have hyi : (len2 : Int) ≤ 1048576 := by omega
  go_enter Tryz.func5, Tryz.ntmps5
  go_wp2_with fail
  refine (head_any er _ hE).mono ?_
  rintro e w1 ⟨rfl, hb1⟩
  have hS0 := OwnSt.start hb1
  obtain ⟨bk, hbk⟩ : ∃ bk, w1.heap.size = bk := ⟨_, rfl⟩
  rw [hbk] at hS0
  go_wp2_with fail
  try rw [hbk]
  go_loopw [5, 7] (fun ok i wr => ok = .bool true ∧ ∃ t : Nat, t ≤ len ∧ i = .int .i64 t ∧ OwnSt w bk t 0 wr) (fun _ i _ => len - (intOf i).toNat)
  case atStart => exact ⟨rfl, 0, Nat.zero_le _, rfl, hS0⟩
  case round =>
    clear hS0
    obtain ⟨rfl, t, ht, rfl, hS⟩ := hrel
    by_cases hlt : t < len
    · have hti : (t : Int) < len := by omega
      obtain ⟨b, o, rfl⟩ := hxa (by omega)
      have htx : t < xs.length := by rw [HXL.out]; exact hlt
      have hr := rqex_run (range_low (hxr b o rfl t htx) hS.fr)
      have hc := hxc xs[t] (List.getElem_mem htx)
      obtain ⟨x, hxe⟩ : ∃ x, xs[t] = x := ⟨_, rfl⟩
      rw [hxe] at hr hc
      clear hxe
      go_wp2_with fail
      refine (requests_st hS (by omega) hE hc.1.1 hc.1.2 hc.2.1 hc.2.2).mono ?_
      rintro e w2 ⟨rfl, hS2⟩
      clear hr hc
      go_wp2_with fail
      go_roundw
      case rel => exact ⟨rfl, t + 1, by omega, by simp, hS2⟩
      case measure => simp [intOf]; omega
    · have hti : ¬ (t : Int) < len := by omega
      go_wp2_with fail
      go_loopw [5, 8] (fun ok i w3 => ok = .bool true ∧ ∃ s : Nat, s ≤ len2 ∧ i = .int .i64 s ∧ OwnSt w bk t s w3) (fun _ i _ => len2 - (intOf i).toNat)
      case atStart => exact ⟨rfl, 0, Nat.zero_le _, rfl, hS⟩
      case round =>
        clear hS
        obtain ⟨rfl, s, hs, rfl, hS⟩ := hrel
        by_cases hlt2 : s < len2
        · have hsi : (s : Int) < len2 := by omega
          obtain ⟨b, o, rfl⟩ := hya (by omega)
          have hty : s < ys.length := by rw [HYL.out]; exact hlt2
          have hr := rpex_run (range_low (hyr b o rfl s hty) hS.fr)
          have hc := hyc ys[s] (List.getElem_mem hty)
          obtain ⟨x, hxe⟩ : ∃ x, ys[s] = x := ⟨_, rfl⟩
          rw [hxe] at hr hc
          clear hxe
          go_wp2_with fail
          refine (replies_st hS (by omega) hE hc.1.1 hc.1.2.1 hc.1.2.2.1 hc.1.2.2.2 hc.2.1 hc.2.2).mono ?_
          rintro e w2 ⟨rfl, hS2⟩
          clear hr hc
          go_wp2_with fail
          go_roundw
          case rel => exact ⟨rfl, s + 1, by omega, by simp, hS2⟩
          case measure => simp [intOf]; omega
        · have hsi : ¬ (s : Int) < len2 := by omega
          go_wp2_with (first
            | (go_at_call 25; refine (whole_st hS (by omega)).mono ?_; rintro e w4 ⟨rfl, hb4⟩; have hS4 := hS.below hb4)
            | (go_at_call 26; refine (stand_st hS4 (by omega)).mono ?_; rintro e w5 ⟨rfl, hb5⟩))
          go_ret
          exact ⟨rfl, (hS4.below hb5).fr⟩
end Go.Proofs.YtdkcplndplhblaaGreatDoor
