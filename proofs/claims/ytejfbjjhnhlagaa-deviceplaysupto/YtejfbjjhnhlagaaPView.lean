/- Steps that came in, opened once, and how much they weigh. -/
import Derived.Test.YtejfbjjhnhlagaaDView
import Derived.Test.YtejfbjjhnhlagaaPP12
import Derived.JoinedCond
namespace Go.Proofs.Ytejfbjjhnhlagaa
open Go.ChangeShapes Go.WideShapes Go.ChangeAt Go.RowKit Go.Deep
set_option maxRecDepth 100000

theorem bulk_one {H : Type} (d : DataW H) : 1 ≤ Rows.uptoBulk d := by
  cases d with
  | lit l => cases l <;> simp [Rows.uptoBulk]
  | nil => simp [Rows.uptoBulk]
  | ptr d => simp [Rows.uptoBulk]
  | slice elems spare => simp [Rows.uptoBulk]
  | agg parts => simp [Rows.uptoBulk]
  | iface t d => simp [Rows.uptoBulk]
  | map entries => simp [Rows.uptoBulk]
  | held h => simp [Rows.uptoBulk]
theorem bulk_length {H : Type} (l : List (DataW H)) : l.length ≤ Rows.uptoBulkAll l := by
  induction l with
  | nil => simp
  | cons x r ih => have := bulk_one x; simp only [Rows.uptoBulkAll, List.length_cons]; omega
theorem bulk_slice {H : Type} (el sp : List (DataW H)) : Rows.uptoBulkAll el + 1 ≤ Rows.uptoBulk (.slice el sp) := by
  simp only [Rows.uptoBulk]; omega
theorem bulk_in {H : Type} : ∀ {l : List (DataW H)} {d : DataW H}, d ∈ l → Rows.uptoBulk d ≤ Rows.uptoBulkAll l
  | x :: r, d, h => by
    simp only [Rows.uptoBulkAll]
    rcases List.mem_cons.1 h with e | e
    · subst e; omega
    · have := bulk_in e; omega
theorem cells33 : Try.prog.cellsOf 33 = 1 := by kernel_rfl
theorem cells34 : Try.prog.cellsOf 34 = 1 := by kernel_rfl
theorem cellsOp : Try.prog.cellsOf 36 = 6 := by kernel_rfl
theorem bytes_of2 {H : Type} {enc : TypeId × Value → H} {W : World} {fuel : Nat} {cs : List Value} {y : DataW H × List MemPlace}
    (hf : DataW.trod enc Try.prog W 0 (fun _ => true) true fuel 33 cs = some y) :
    ∃ a0 len cap Z, cs = [.slice a0 len cap] ∧ Lies W a0 len cap Z ∧ (∀ x ∈ Z, 0 ≤ x ∧ x ≤ 255) ∧ len + 1 ≤ Rows.uptoBulk y.1 := by
  have hcs : ∃ a0 len cap, cs = [.slice a0 len cap] := by
    rcases open_ints Try.underlying33 Try.underlying5 cells5 hf with ⟨h, _⟩ | ⟨a, len', cap', zs, h, _⟩
    · exact ⟨_, _, _, h⟩
    · exact ⟨_, _, _, h⟩
  obtain ⟨a0, len, cap, rfl⟩ := hcs
  obtain ⟨d, p⟩ := y
  obtain ⟨Z, h1, h2, h3⟩ := view_bytes (a0 := a0) (len := len) (cap := cap) (d := d) (p := p) (fuel := fuel) hf
  refine ⟨a0, len, cap, Z, rfl, h1, h2, ?_⟩
  rcases h3 with h | ⟨sp, h⟩
  · have := bulk_one d
    simp only
    omega
  · subst h
    have e1 := bulk_slice (H := H) (lits .u8 Z) sp
    have e2 := bulk_length (H := H) (lits .u8 Z)
    have e3 : (lits (H := H) .u8 Z).length = len := by simp [lits, h1.hlen]
    simp only
    omega
theorem bools_of2 {H : Type} {enc : TypeId × Value → H} {W : World} {fuel : Nat} {cs : List Value} {y : DataW H × List MemPlace}
    (hf : DataW.trod enc Try.prog W 0 (fun _ => true) true fuel 34 cs = some y) :
    ∃ a0 len cap ks, cs = [.slice a0 len cap] ∧ KLies W a0 len cap ks ∧ (a0 = none → len = 0 ∧ cap = 0) ∧ len + 1 ≤ Rows.uptoBulk y.1 := by
  have hcs : ∃ a0 len cap, cs = [.slice a0 len cap] ∧ (a0 = none → len = 0 ∧ cap = 0) := by
    rcases open_slice Try.underlying34 hf with ⟨h, _⟩ | ⟨a, len', cap', m, n, D, Pl, h, _⟩
    · exact ⟨_, _, _, h, fun _ => ⟨rfl, rfl⟩⟩
    · exact ⟨_, _, _, h, fun q => by cases q⟩
  obtain ⟨a0, len, cap, rfl, hz⟩ := hcs
  obtain ⟨ks, h1, h3⟩ := view_bools (a0 := a0) (len := len) (cap := cap) (y := y) (fuel := fuel) hf
  refine ⟨a0, len, cap, ks, rfl, h1, hz, ?_⟩
  rcases h3 with h | ⟨el, sp, h, hl⟩
  · have := bulk_one y.1
    omega
  · rw [h]
    have e1 := bulk_slice (H := H) el sp
    have e2 := bulk_length (H := H) el
    omega
theorem op_of {H : Type} {enc : TypeId × Value → H} {W : World} {fuel : Nat} {cs : List Value} {y : DataW H × List MemPlace} {a : Addr}
    (hc : W.cells? 0 a 6 = some cs) (hf : DataW.trod enc Try.prog W 0 (fun _ => true) true fuel 36 cs = some y) :
    ∃ o : OpR, (∀ j v, o.cells[j]? = some v → W.cell? (a.add j) = some v) ∧ (Rows.uptoBulk y.1 ≤ 1048576 → OpIn W o) ∧ 7 ≤ Rows.uptoBulk y.1 := by
  obtain ⟨xs, n, _, hy, hl, hn, hfs⟩ := DataW.trod_struct Try.underlying36 hf
  rw [cellsOp] at hl
  obtain ⟨_, hlen, hcell⟩ := World.cells?_some hc
  match cs, hl with
  | [c0, c1, c2, c3, c4, c5], _ =>
    match xs, hn with
    | [y0, y1, y2, y3, y4, y5], _ =>
      have f0 : DataW.trod enc Try.prog W 0 (fun _ => true) true n 3 (([c0, c1, c2, c3, c4, c5].drop 0).take (Try.prog.cellsOf 3)) = some y0 := hfs 0 _ rfl
      have f1 : DataW.trod enc Try.prog W 0 (fun _ => true) true n 3 (([c0, c1, c2, c3, c4, c5].drop 1).take (Try.prog.cellsOf 3)) = some y1 := hfs 1 _ rfl
      have f2 : DataW.trod enc Try.prog W 0 (fun _ => true) true n 3 (([c0, c1, c2, c3, c4, c5].drop 2).take (Try.prog.cellsOf 3)) = some y2 := hfs 2 _ rfl
      have f3 : DataW.trod enc Try.prog W 0 (fun _ => true) true n 3 (([c0, c1, c2, c3, c4, c5].drop 3).take (Try.prog.cellsOf 3)) = some y3 := hfs 3 _ rfl
      have f4 : DataW.trod enc Try.prog W 0 (fun _ => true) true n 33 (([c0, c1, c2, c3, c4, c5].drop 4).take (Try.prog.cellsOf 33)) = some y4 := hfs 4 _ rfl
      have f5 : DataW.trod enc Try.prog W 0 (fun _ => true) true n 34 (([c0, c1, c2, c3, c4, c5].drop 5).take (Try.prog.cellsOf 34)) = some y5 := hfs 5 _ rfl
      rw [cells3] at f0 f1 f2 f3
      rw [cells33] at f4
      rw [cells34] at f5
      obtain ⟨K0, e0, _, _⟩ := DataW.trod_int Try.underlying3 f0
      obtain ⟨K1, e1, _, _⟩ := DataW.trod_int Try.underlying3 f1
      obtain ⟨K2, e2, _, _⟩ := DataW.trod_int Try.underlying3 f2
      obtain ⟨K3, e3, _, w3⟩ := DataW.trod_int Try.underlying3 f3
      obtain ⟨da, dn, dc, Z, e4, hL, hs, hb4⟩ := bytes_of2 f4
      obtain ⟨ka, kn, kc, ks, e5, hK, hz, hb5⟩ := bools_of2 f5
      simp at e0 e1 e2 e3 e4 e5
      subst e0 e1 e2 e3 e4 e5
      have hX := bounds_i64 w3
      have hy' : Rows.uptoBulk y.1 = Rows.uptoBulk y0.1 + (Rows.uptoBulk y1.1 + (Rows.uptoBulk y2.1 + (Rows.uptoBulk y3.1 + (Rows.uptoBulk y4.1 + Rows.uptoBulk y5.1)))) + 1 := by
        rw [hy]
        simp only [Rows.uptoBulk, Rows.uptoBulkAll, List.map_cons, List.map_nil, Nat.add_zero]
      have q0 := bulk_one y0.1
      have q1 := bulk_one y1.1
      have q2 := bulk_one y2.1
      have q3 := bulk_one y3.1
      refine ⟨⟨K0, K1, K2, K3, da, dn, dc, Z, ka, kn, kc, ks⟩, fun j v hv => ?_, fun hle => ⟨hL, hs, hK, hz, by simp only; omega, by simp only; omega, hX.2⟩, by omega⟩
      have hj : j < 6 := (List.getElem?_eq_some_iff.1 hv).1
      rw [hcell j hj]
      exact hv
theorem bulk_seven {H : Type} (D : Nat → DataW H) : ∀ (n : Nat), (∀ i, i < n → 7 ≤ Rows.uptoBulk (D i)) → 7 * n ≤ Rows.uptoBulkAll ((List.range n).map D)
  | 0, _ => by simp
  | n + 1, h => by
    have ih := bulk_seven D n (fun i hi => h i (by omega))
    have hn := h n (by omega)
    have app : ∀ (l : List (DataW H)) d, Rows.uptoBulkAll (l ++ [d]) = Rows.uptoBulkAll l + Rows.uptoBulk d := by
      intro l d
      induction l with
      | nil => simp [Rows.uptoBulkAll]
      | cons x r ih => simp only [List.cons_append, Rows.uptoBulkAll, ih]; omega
    rw [List.range_succ, List.map_append, List.map_cons, List.map_nil, app]
    omega
theorem view_ops {H : Type} {enc : TypeId × Value → H} {W : World} {fuel : Nat} {a0 : Option Addr} {len cap : Nat} {d : DataW H} {p : List MemPlace} (hbk : Rows.uptoBulk d ≤ 1048576)
    (hf : DataW.trod enc Try.prog W 0 (fun _ => true) true fuel 22 (Value.slice a0 len cap).cells.toList = some (d, p)) :
    ∃ os : List OpR, SLies W a0 len os ∧ len ≤ 150000 := by
  rcases open_slice Try.underlying22 hf with ⟨hcs, hx⟩ | ⟨a, len', cap', m, n, D, Pl, hcs, _, hl, hm, hmm, hx, hel⟩
  · simp [Value.cells] at hcs
    obtain ⟨rfl, rfl, rfl⟩ := hcs
    exact ⟨[], ⟨rfl, fun j o h => by simp at h⟩, by omega⟩
  · simp [Value.cells] at hcs
    obtain ⟨rfl, rfl, rfl⟩ := hcs
    simp only [if_true] at hmm
    subst hmm
    rw [cellsOp] at hel
    simp only [Prod.mk.injEq] at hx
    have hall : ∀ sp, d = .slice ((List.range len).map D) sp → Rows.uptoBulkAll ((List.range len).map D) ≤ 1048576 := fun sp e => by
      have := bulk_slice (H := H) ((List.range len).map D) sp
      rw [← e] at this
      omega
    have hall' := hall _ hx.1
    have hinh : Inhabited OpR := ⟨⟨0, 0, 0, 0, none, 0, 0, [], none, 0, 0, []⟩⟩
    obtain ⟨X, hX⟩ := choose_lt (α := OpR) (p := fun i x => (∀ j v, x.cells[j]? = some v → W.cell? ((a.add (i * 6)).add j) = some v) ∧ OpIn W x ∧ 7 ≤ Rows.uptoBulk (D i)) (n := len) (fun i hi => by
      obtain ⟨cs', h1, h2⟩ := hel i (by omega)
      obtain ⟨o, h3, h4, h5⟩ := op_of h1 h2
      refine ⟨o, h3, h4 ?_, h5⟩
      exact Nat.le_trans (bulk_in (List.mem_map.2 ⟨i, by simpa using hi, rfl⟩)) hall')
    have h7 := bulk_seven D len (fun i hi => (hX i hi).2.2)
    refine ⟨(List.range len).map X, ⟨by simp, fun j o hj => ?_⟩, by omega⟩
    have hjl : j < len := by
      have := (List.getElem?_eq_some_iff.1 hj).1
      simpa using this
    simp [hjl] at hj
    subst hj
    obtain ⟨h1, h2, _⟩ := hX j hjl
    have q00 := (hX 0 (by omega)).1 0 _ rfl
    obtain ⟨b', o', spot⟩ := a
    have hspot : spot = none := by simpa [Addr.add] using World.cell?_spot q00
    subst hspot
    refine ⟨h2, b', o', rfl, fun t v hv => ?_⟩
    have := h1 t v hv
    rw [Addr.add_lit, Addr.add_lit] at this
    exact this
end Go.Proofs.Ytejfbjjhnhlagaa
