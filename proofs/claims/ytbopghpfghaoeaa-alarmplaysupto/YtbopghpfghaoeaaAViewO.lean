/- A list of steps that came in, opened once; what the bound of the second form gives: its length. -/
import Derived.Test.YtbopghpfghaoeaaAView
import Derived.Test.YtbopghpfghaoeaaAQ2
import Derived.Deep.Slices
import Derived.JoinedCond
namespace Go.Proofs.Ytbopghpfghaoeaa
open Go.ChangeShapes Go.WideShapes Go.ChangeAt Go.RowKit Go.Deep
set_option maxRecDepth 100000

theorem bulk_one {H : Type} (d : DataW H) : 1 ≤ Rows.uptoBulk d := by
  cases d with
  | lit l => cases l <;> simp [Rows.uptoBulk]
  | nil => simp [Rows.uptoBulk]
  | ptr d => simp [Rows.uptoBulk]
  | slice elems spare => simp [Rows.uptoBulk]
  | agg parts => simp [Rows.uptoBulk]
  | iface t d => simp [Rows.uptoBulk]
  | map entries => simp [Rows.uptoBulk]
  | held h => simp [Rows.uptoBulk]
theorem bulk_part {H : Type} {d : DataW H} {l : List (DataW H)} (h : d ∈ l) : Rows.uptoBulk d ≤ Rows.uptoBulkAll l := by
  induction l with
  | nil => cases h
  | cons x r ih =>
    simp only [Rows.uptoBulkAll]
    cases List.mem_cons.1 h with
    | inl e => subst e; omega
    | inr e => have := ih e; omega
theorem bulk_len {H : Type} (l : List (DataW H)) : l.length ≤ Rows.uptoBulkAll l := by
  induction l with
  | nil => simp [Rows.uptoBulkAll]
  | cons x r ih => have := bulk_one x; simp only [Rows.uptoBulkAll, List.length_cons]; omega
theorem bulk_said {H : Type} {l : List (DataW H)} (hk : Rows.uptoSmall H l = true) : Rows.uptoBulkAll l ≤ 1048576 := of_decide_eq_true hk

theorem upto_len {H : Type} {ds : List (DataW H)} {len : Nat} {d : DataW H} (hk : Rows.uptoSmall H ds = true) (hd : d ∈ ds) (h : len = 0 ∨ ∃ xs sp, d = .slice xs sp ∧ xs.length = len) : len ≤ 1048576 := by
  rcases h with h | ⟨xs, sa, h, hl⟩
  · omega
  · have h1 := bulk_said hk
    have h2 := bulk_part hd
    rw [h] at h2
    have h3 := bulk_len xs
    simp only [Rows.uptoBulk] at h2
    omega
theorem cellsOp : Try.prog.cellsOf 73 = 4 := by kernel_rfl
theorem cellsBool : Try.prog.cellsOf 4 = 1 := by kernel_rfl
theorem op_of {H : Type} {enc : TypeId × Value → H} {W : World} {fuel : Nat} {cs : List Value} {y : DataW H × List MemPlace} {a : Addr}
    (hc : W.cells? 0 a 4 = some cs) (hf : DataW.trod enc Try.prog W 0 (fun _ => true) true fuel 73 cs = some y) :
    ∃ o : Oi, W.cell? (a.add 0) = some (.int .i64 o.k) ∧ W.cell? (a.add 1) = some (.bool o.s) ∧ W.cell? (a.add 2) = some (.int .i64 o.x) ∧ W.cell? (a.add 3) = some (.int .i64 o.t) ∧ (-9223372036854775808 ≤ o.x ∧ o.x ≤ 9223372036854775807) := by
  obtain ⟨xs, n, _, hy, hl, hn, hfs⟩ := DataW.trod_struct Try.underlying73 hf
  rw [cellsOp] at hl
  obtain ⟨_, hlen, hcell⟩ := World.cells?_some hc
  match cs, hl with
  | [c0, c1, c2, c3], _ =>
    match xs, hn with
    | [y0, y1, y2, y3], _ =>
      have f0 : DataW.trod enc Try.prog W 0 (fun _ => true) true n 3 (([c0, c1, c2, c3].drop 0).take (Try.prog.cellsOf 3)) = some y0 := hfs 0 _ rfl
      have f1 : DataW.trod enc Try.prog W 0 (fun _ => true) true n 4 (([c0, c1, c2, c3].drop 1).take (Try.prog.cellsOf 4)) = some y1 := hfs 1 _ rfl
      have f2 : DataW.trod enc Try.prog W 0 (fun _ => true) true n 3 (([c0, c1, c2, c3].drop 2).take (Try.prog.cellsOf 3)) = some y2 := hfs 2 _ rfl
      have f3 : DataW.trod enc Try.prog W 0 (fun _ => true) true n 3 (([c0, c1, c2, c3].drop 3).take (Try.prog.cellsOf 3)) = some y3 := hfs 3 _ rfl
      rw [cellsInt] at f0 f2 f3
      rw [cellsBool] at f1
      obtain ⟨K0, e0, _, g0⟩ := DataW.trod_int Try.underlying3 f0
      obtain ⟨K1, e1, _⟩ := DataW.trod_bool Try.underlying4 f1
      obtain ⟨K2, e2, _, g2⟩ := DataW.trod_int Try.underlying3 f2
      obtain ⟨K3, e3, _, g3⟩ := DataW.trod_int Try.underlying3 f3
      simp at e0 e1 e2 e3
      subst e0 e1 e2 e3
      exact ⟨⟨K0, K1, K2, K3⟩, hcell 0 (by decide), hcell 1 (by decide), hcell 2 (by decide), hcell 3 (by decide), bounds_i64 g2⟩
theorem view_ops {H : Type} {enc : TypeId × Value → H} {W : World} {fuel : Nat} {a0 : Option Addr} {len cap : Nat} {d : DataW H} {p : List MemPlace}
    (hf : DataW.trod enc Try.prog W 0 (fun _ => true) true fuel 67 (Value.slice a0 len cap).cells.toList = some (d, p)) :
    ∃ es : List Oi, OLies W a0 len es ∧ (len = 0 ∨ ∃ ds sp, d = .slice ds sp ∧ ds.length = len) := by
  rcases open_slice Try.underlying67 hf with ⟨hcs, hx⟩ | ⟨a, len', cap', m, n, D, Pl, hcs, _, hl, hm, hmm, hx, hel⟩
  · simp [Value.cells] at hcs
    obtain ⟨rfl, rfl, rfl⟩ := hcs
    exact ⟨[], ⟨rfl, fun j s h => by simp at h⟩, Or.inl rfl⟩
  · simp [Value.cells] at hcs
    obtain ⟨rfl, rfl, rfl⟩ := hcs
    simp only [if_true] at hmm
    subst hmm
    rw [cellsOp] at hel
    have hinh : Inhabited Oi := ⟨⟨0, false, 0, 0⟩⟩
    obtain ⟨X, hX⟩ := choose_lt (α := Oi) (p := fun i x => W.cell? ((a.add (i * 4)).add 0) = some (.int .i64 x.k) ∧ W.cell? ((a.add (i * 4)).add 1) = some (.bool x.s) ∧ W.cell? ((a.add (i * 4)).add 2) = some (.int .i64 x.x) ∧ W.cell? ((a.add (i * 4)).add 3) = some (.int .i64 x.t) ∧ (-9223372036854775808 ≤ x.x ∧ x.x ≤ 9223372036854775807)) (n := len) (fun i hi => by
      obtain ⟨cs', h1, h2⟩ := hel i (by omega)
      exact op_of h1 h2)
    refine ⟨(List.range len).map X, ⟨by simp, fun j s hj => ?_⟩, Or.inr ⟨_, _, (Prod.mk.inj hx).1, by simp⟩⟩
    have hjl : j < len := by
      have := (List.getElem?_eq_some_iff.1 hj).1
      simpa using this
    obtain ⟨h0, h1, h2, h3, hI⟩ := hX j hjl
    simp [hjl] at hj
    subst hj
    have q00 := (hX 0 (by omega)).1
    obtain ⟨b', o, spot⟩ := a
    have hspot : spot = none := by simpa [Addr.add] using World.cell?_spot q00
    subst hspot
    rw [Addr.add_lit, Addr.add_lit] at h0 h1 h2 h3
    exact ⟨hI, b', o, rfl, h0, h1, h2, h3⟩
end Go.Proofs.Ytbopghpfghaoeaa
