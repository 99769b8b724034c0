/- An event that came in, opened once, and how much it weighs. (Written by mkWV.py.) -/
import Derived.Test.YtjkmdacgiebbfaaDoorW16
import Derived.Test.YtjkmdacgiebbfaaDoorWL
import Derived.Deep.Slices
namespace Go.Proofs.YtjkmdacgiebbfaaDoor
open Go.ChangeShapes Go.WideShapes Go.ChangeAt Go.RowKit Go.Deep
set_option maxRecDepth 100000

theorem cells5 : Tryd.prog.cellsOf 5 = 1 := by kernel_rfl
theorem cellsB : Tryd.prog.cellsOf 23 = 1 := by kernel_rfl
theorem cellsL : Tryd.prog.cellsOf 28 = 1 := by kernel_rfl
theorem cellsF : Tryd.prog.cellsOf 4 = 1 := by kernel_rfl
theorem cellsN : Tryd.prog.cellsOf 22 = 1 := by kernel_rfl
theorem cellsEnt : Tryd.prog.cellsOf 60 = 3 := by kernel_rfl
theorem cellsAttr : Tryd.prog.cellsOf 27 = 4 := by kernel_rfl
theorem cellsCall : Tryd.prog.cellsOf 25 = 9 := by kernel_rfl
theorem cellsRes : Tryd.prog.cellsOf 30 = 11 := by kernel_rfl
theorem cellsHan : Tryd.prog.cellsOf 32 = 4 := by kernel_rfl
theorem cellsKep : Tryd.prog.cellsOf 34 = 4 := by kernel_rfl
theorem cellsFli : Tryd.prog.cellsOf 36 = 3 := by kernel_rfl
theorem cellsEv : Tryd.prog.cellsOf 38 = 36 := by kernel_rfl

theorem bulk_one {H : Type} (d : DataW H) : 1 ≤ Rows.uptoBulk d := by
  cases d with
  | lit l => cases l <;> simp [Rows.uptoBulk]
  | nil => simp [Rows.uptoBulk]
  | ptr d => simp [Rows.uptoBulk]
  | slice elems spare => simp [Rows.uptoBulk]
  | agg parts => simp [Rows.uptoBulk]
  | iface t d => simp [Rows.uptoBulk]
  | map entries => simp [Rows.uptoBulk]
  | held h => simp [Rows.uptoBulk]
theorem bulk_length {H : Type} (l : List (DataW H)) : l.length ≤ Rows.uptoBulkAll l := by
  induction l with
  | nil => simp
  | cons x r ih => have := bulk_one x; simp only [Rows.uptoBulkAll, List.length_cons]; omega
theorem bulk_at {H : Type} (l : List (DataW H)) : ∀ (j : Nat) (x : DataW H), l[j]? = some x → Rows.uptoBulk x ≤ Rows.uptoBulkAll l := by
  induction l with
  | nil => intro j x h; simp at h
  | cons y l ih =>
    intro j x h
    cases j with
    | zero => simp at h; subst h; simp only [Rows.uptoBulkAll]; omega
    | succ j => have := ih j x (by simpa using h); simp only [Rows.uptoBulkAll]; omega

theorem int_v {H : Type} {enc : TypeId × Value → H} {W : World} {fuel : Nat} {t : TypeId} {cs : List Value} {y : DataW H × List MemPlace} (ht : Tryd.prog.underlying t = some (.int .i64))
    (hf : DataW.trod enc Tryd.prog W 0 (fun _ => true) true fuel t cs = some y) : ∃ x, cs = [.int .i64 x] ∧ isI x := by
  obtain ⟨x, e, _, hw⟩ := DataW.trod_int ht hf
  exact ⟨x, e, bounds_i64 hw⟩
theorem str_v {H : Type} {enc : TypeId × Value → H} {W : World} {fuel : Nat} {cs : List Value} {y : DataW H × List MemPlace}
    (hf : DataW.trod enc Tryd.prog W 0 (fun _ => true) true fuel 9 cs = some y) : ∃ s, cs = [.string s] ∧ s.size + 1 ≤ Rows.uptoBulk y.1 := by
  obtain ⟨s, e, h, _⟩ := DataW.trod_string Tryd.underlying9 hf
  refine ⟨s, e, ?_⟩
  rw [h]
  simp only [Rows.uptoBulk]
  exact Nat.le_refl _
theorem bytes_v {H : Type} {enc : TypeId × Value → H} {W : World} {fuel : Nat} {cs : List Value} {y : DataW H × List MemPlace}
    (hf : DataW.trod enc Tryd.prog W 0 (fun _ => true) true fuel 23 cs = some y) : ∃ v l, cs = [v] ∧ BAt W v l ∧ l.length + 1 ≤ Rows.uptoBulk y.1 := by
  rcases open_ints Tryd.underlying23 Tryd.underlying5 cells5 hf with ⟨h, _⟩ | ⟨a, len, cap, zs, h, _, hl, _, hz, hx, hcell, hwz⟩
  · exact ⟨_, [], h, ⟨none, 0, rfl, fun _ h => (by cases h), fun _ => rfl⟩, bulk_one _⟩
  · simp only [if_true] at hz
    have hlen : ((zs.take len).map fun z => UInt8.ofNat z.toNat).length = len := by rw [List.length_map, List.length_take]; omega
    refine ⟨_, (zs.take len).map fun z => UInt8.ofNat z.toNat, h, ⟨some a, cap, by rw [hlen], fun ad had j hj => ?_, fun h => by cases h⟩, ?_⟩
    · obtain rfl := Option.some.inj had
      rw [hlen] at hj
      rw [hcell j (by omega)]
      have hm : zs[j]'(by omega) ∈ zs := List.getElem_mem _
      have hb := bounds_u8 (hwz _ hm)
      simp only [List.getElem_map, List.getElem_take, ub, List.getD, List.getElem?_eq_getElem (show j < zs.length by omega), Option.getD_some]
      congr 2
      rw [UInt8.toNat_ofNat']
      omega
    · rw [hx, hlen]
      simp only [Rows.uptoBulk]
      have := bulk_length (H := H) (lits .u8 (zs.take len))
      have e3 : (lits (H := H) .u8 (zs.take len)).length = len := by simp [lits]; omega
      omega
theorem ent_v {H : Type} {enc : TypeId × Value → H} {W : World} {fuel : Nat} {cs : List Value} {y : DataW H × List MemPlace} {a : Addr}
    (hc : W.cells? 0 a 3 = some cs) (hf : DataW.trod enc Tryd.prog W 0 (fun _ => true) true fuel 60 cs = some y) :
    ∃ x : Ent, W.cell? (a.add 0) = some (.string x.name) ∧ W.cell? (a.add 1) = some (.int .i64 x.id) ∧ W.cell? (a.add 2) = some (.int .i64 x.kind) ∧ x.name.size ≤ Rows.uptoBulk y.1 ∧ isI x.id ∧ isI x.kind := by
  obtain ⟨xs, n, _, hy, hl, hn, hfs⟩ := DataW.trod_struct Tryd.underlying60 hf
  rw [cellsEnt] at hl
  obtain ⟨_, hlen, hcell⟩ := World.cells?_some hc
  match cs, hl with
  | [c0, c1, c2], _ =>
    match xs, hn with
    | [y0, y1, y2], _ =>
      have f0 : DataW.trod enc Tryd.prog W 0 (fun _ => true) true n 9 (([c0, c1, c2].drop 0).take (Tryd.prog.cellsOf 9)) = some y0 := hfs 0 _ rfl
      have f1 : DataW.trod enc Tryd.prog W 0 (fun _ => true) true n 3 (([c0, c1, c2].drop 1).take (Tryd.prog.cellsOf 3)) = some y1 := hfs 1 _ rfl
      have f2 : DataW.trod enc Tryd.prog W 0 (fun _ => true) true n 3 (([c0, c1, c2].drop 2).take (Tryd.prog.cellsOf 3)) = some y2 := hfs 2 _ rfl
      rw [cellsS] at f0
      rw [cellsI] at f1 f2
      obtain ⟨s, e0, w0⟩ := str_v f0
      obtain ⟨X, e1, w1⟩ := int_v Tryd.underlying3 f1
      obtain ⟨K, e2, w2⟩ := int_v Tryd.underlying3 f2
      simp at e0 e1 e2
      subst e0 e1 e2
      refine ⟨⟨s, X, K⟩, hcell 0 (by decide), hcell 1 (by decide), hcell 2 (by decide), ?_, w1, w2⟩
      rw [hy]
      simp only [Rows.uptoBulk, Rows.uptoBulkAll, List.map_cons, List.map_nil]
      show s.size ≤ _
      omega
theorem ents_v {H : Type} {enc : TypeId × Value → H} {W : World} {fuel : Nat} {cs : List Value} {y : DataW H × List MemPlace}
    (hf : DataW.trod enc Tryd.prog W 0 (fun _ => true) true fuel 28 cs = some y) :
    ∃ v es, cs = [v] ∧ EAt W v es ∧ es.length + 1 ≤ Rows.uptoBulk y.1 ∧ ∀ e ∈ es, e.name.size ≤ Rows.uptoBulk y.1 ∧ isI e.id ∧ isI e.kind := by
  rcases open_slice Tryd.underlying28 hf with ⟨hcs, hx⟩ | ⟨a, len, cap, m, n, D, Pl, hcs, _, hl, hm, hmm, hx, hel⟩
  · exact ⟨_, [], hcs, ⟨none, 0, rfl, fun _ h => (by cases h), fun _ => rfl⟩, bulk_one _, by simp⟩
  · simp only [if_true] at hmm
    rw [cellsEnt] at hel
    have hinh : Inhabited Ent := ⟨⟨⟨#[]⟩, 0, 0⟩⟩
    obtain ⟨X, hX⟩ := choose_lt (α := Ent) (p := fun i x => W.cell? ((a.add (i * 3)).add 0) = some (.string x.name) ∧ W.cell? ((a.add (i * 3)).add 1) = some (.int .i64 x.id) ∧ W.cell? ((a.add (i * 3)).add 2) = some (.int .i64 x.kind) ∧ x.name.size ≤ Rows.uptoBulk (D i) ∧ isI x.id ∧ isI x.kind) (n := len) (fun i hi => by
      obtain ⟨cs', h1, h2⟩ := hel i (by omega)
      exact ent_v h1 h2)
    have hle : ((List.range len).map X).length = len := by simp
    have hsum : Rows.uptoBulkAll ((List.range len).map D) + 1 ≤ Rows.uptoBulk y.1 := by rw [hx]; simp only [Rows.uptoBulk]; omega
    refine ⟨_, (List.range len).map X, hcs, ⟨some a, cap, by rw [hle], fun ad had j hj => ?_, fun h => by cases h⟩, ?_, ?_⟩
    · obtain rfl := Option.some.inj had
      rw [hle] at hj
      obtain ⟨h0, h1, h2, _⟩ := hX j hj
      obtain ⟨q0, _⟩ := hX 0 (by omega)
      obtain ⟨b, o, spot⟩ := a
      have hspot : spot = none := by simpa [Addr.add] using World.cell?_spot q0
      subst hspot
      rw [Addr.add_lit, Addr.add_lit] at h0 h1 h2
      rw [Addr.add_lit, Addr.add_lit, Addr.add_lit]
      simp only [List.getElem_map, List.getElem_range]
      rw [show o + 3 * j = o + j * 3 + 0 by omega, show o + (3 * j + 1) = o + j * 3 + 1 by omega, show o + (3 * j + 2) = o + j * 3 + 2 by omega]
      exact ⟨h0, h1, h2⟩
    · have := bulk_length ((List.range len).map D)
      rw [List.length_map, List.length_range] at this
      rw [hle]; omega
    · intro e he
      obtain ⟨i, hi, rfl⟩ := List.mem_map.1 he
      rw [List.mem_range] at hi
      obtain ⟨_, _, _, h3, h4⟩ := hX i hi
      have := bulk_at ((List.range len).map D) i (D i) (by simp [hi])
      exact ⟨by omega, h4⟩
theorem attr_v {H : Type} {enc : TypeId × Value → H} {W : World} {fuel : Nat} {cs : List Value} {y : DataW H × List MemPlace}
    (hf : DataW.trod enc Tryd.prog W 0 (fun _ => true) true fuel 27 cs = some y) : ∃ a b c d : Int, cs = [.int .i64 a, .int .i64 b, .int .i64 c, .int .i64 d] ∧ isI a ∧ isI b ∧ isI c ∧ isI d := by
  obtain ⟨xs, n, _, hy, hl, hn, hfs⟩ := DataW.trod_struct Tryd.underlying27 hf
  rw [cellsAttr] at hl
  match cs, hl with
  | [c0, c1, c2, c3], _ =>
    match xs, hn with
    | [y0, y1, y2, y3], _ =>
      have f0 : DataW.trod enc Tryd.prog W 0 (fun _ => true) true n 3 (([c0, c1, c2, c3].drop 0).take (Tryd.prog.cellsOf 3)) = some y0 := hfs 0 _ rfl
      rw [cellsI] at f0
      obtain ⟨x0, e0, w0⟩ := int_v Tryd.underlying3 f0
      have f1 : DataW.trod enc Tryd.prog W 0 (fun _ => true) true n 3 (([c0, c1, c2, c3].drop 1).take (Tryd.prog.cellsOf 3)) = some y1 := hfs 1 _ rfl
      rw [cellsI] at f1
      obtain ⟨x1, e1, w1⟩ := int_v Tryd.underlying3 f1
      have f2 : DataW.trod enc Tryd.prog W 0 (fun _ => true) true n 3 (([c0, c1, c2, c3].drop 2).take (Tryd.prog.cellsOf 3)) = some y2 := hfs 2 _ rfl
      rw [cellsI] at f2
      obtain ⟨x2, e2, w2⟩ := int_v Tryd.underlying3 f2
      have f3 : DataW.trod enc Tryd.prog W 0 (fun _ => true) true n 3 (([c0, c1, c2, c3].drop 3).take (Tryd.prog.cellsOf 3)) = some y3 := hfs 3 _ rfl
      rw [cellsI] at f3
      obtain ⟨x3, e3, w3⟩ := int_v Tryd.underlying3 f3
      simp only [List.drop_zero, List.drop_succ_cons, List.take_succ_cons, List.take_zero, List.cons.injEq, and_true] at e0 e1 e2 e3
      have hB : Rows.uptoBulk y.1 = Rows.uptoBulk y0.1 + Rows.uptoBulk y1.1 + Rows.uptoBulk y2.1 + Rows.uptoBulk y3.1 + 1 := by
        rw [hy]
        simp only [Rows.uptoBulk, Rows.uptoBulkAll, List.map_cons, List.map_nil]
        omega
      subst e0 e1 e2 e3
      exact ⟨x0, x1, x2, x3, rfl, w0, w1, w2, w3⟩

theorem call_v {H : Type} {enc : TypeId × Value → H} {W : World} {fuel : Nat} {cs : List Value} {y : DataW H × List MemPlace}
    (hf : DataW.trod enc Tryd.prog W 0 (fun _ => true) true fuel 25 cs = some y) : ∃ c : Cl, cs = c.vals.toList ∧ c.Lies W ∧ c.ints ∧ c.bytes ≤ Rows.uptoBulk y.1 := by
  obtain ⟨xs, n, _, hy, hl, hn, hfs⟩ := DataW.trod_struct Tryd.underlying25 hf
  rw [cellsCall] at hl
  match cs, hl with
  | [c0, c1, c2, c3, c4, c5, c6, c7, c8], _ =>
    match xs, hn with
    | [y0, y1, y2, y3, y4, y5, y6, y7, y8], _ =>
      have f0 : DataW.trod enc Tryd.prog W 0 (fun _ => true) true n 3 (([c0, c1, c2, c3, c4, c5, c6, c7, c8].drop 0).take (Tryd.prog.cellsOf 3)) = some y0 := hfs 0 _ rfl
      rw [cellsI] at f0
      obtain ⟨x0, e0, w0⟩ := int_v Tryd.underlying3 f0
      have f1 : DataW.trod enc Tryd.prog W 0 (fun _ => true) true n 3 (([c0, c1, c2, c3, c4, c5, c6, c7, c8].drop 1).take (Tryd.prog.cellsOf 3)) = some y1 := hfs 1 _ rfl
      rw [cellsI] at f1
      obtain ⟨x1, e1, w1⟩ := int_v Tryd.underlying3 f1
      have f2 : DataW.trod enc Tryd.prog W 0 (fun _ => true) true n 3 (([c0, c1, c2, c3, c4, c5, c6, c7, c8].drop 2).take (Tryd.prog.cellsOf 3)) = some y2 := hfs 2 _ rfl
      rw [cellsI] at f2
      obtain ⟨x2, e2, w2⟩ := int_v Tryd.underlying3 f2
      have f3 : DataW.trod enc Tryd.prog W 0 (fun _ => true) true n 3 (([c0, c1, c2, c3, c4, c5, c6, c7, c8].drop 3).take (Tryd.prog.cellsOf 3)) = some y3 := hfs 3 _ rfl
      rw [cellsI] at f3
      obtain ⟨x3, e3, w3⟩ := int_v Tryd.underlying3 f3
      have f4 : DataW.trod enc Tryd.prog W 0 (fun _ => true) true n 3 (([c0, c1, c2, c3, c4, c5, c6, c7, c8].drop 4).take (Tryd.prog.cellsOf 3)) = some y4 := hfs 4 _ rfl
      rw [cellsI] at f4
      obtain ⟨x4, e4, w4⟩ := int_v Tryd.underlying3 f4
      have f5 : DataW.trod enc Tryd.prog W 0 (fun _ => true) true n 9 (([c0, c1, c2, c3, c4, c5, c6, c7, c8].drop 5).take (Tryd.prog.cellsOf 9)) = some y5 := hfs 5 _ rfl
      rw [cellsS] at f5
      obtain ⟨x5, e5, w5⟩ := str_v f5
      have f6 : DataW.trod enc Tryd.prog W 0 (fun _ => true) true n 9 (([c0, c1, c2, c3, c4, c5, c6, c7, c8].drop 6).take (Tryd.prog.cellsOf 9)) = some y6 := hfs 6 _ rfl
      rw [cellsS] at f6
      obtain ⟨x6, e6, w6⟩ := str_v f6
      have f7 : DataW.trod enc Tryd.prog W 0 (fun _ => true) true n 9 (([c0, c1, c2, c3, c4, c5, c6, c7, c8].drop 7).take (Tryd.prog.cellsOf 9)) = some y7 := hfs 7 _ rfl
      rw [cellsS] at f7
      obtain ⟨x7, e7, w7⟩ := str_v f7
      have f8 : DataW.trod enc Tryd.prog W 0 (fun _ => true) true n 23 (([c0, c1, c2, c3, c4, c5, c6, c7, c8].drop 8).take (Tryd.prog.cellsOf 23)) = some y8 := hfs 8 _ rfl
      rw [cellsB] at f8
      obtain ⟨x8, l8, e8, b8, w8⟩ := bytes_v f8
      simp only [List.drop_zero, List.drop_succ_cons, List.take_succ_cons, List.take_zero, List.cons.injEq, and_true] at e0 e1 e2 e3 e4 e5 e6 e7 e8
      have hB : Rows.uptoBulk y.1 = Rows.uptoBulk y0.1 + Rows.uptoBulk y1.1 + Rows.uptoBulk y2.1 + Rows.uptoBulk y3.1 + Rows.uptoBulk y4.1 + Rows.uptoBulk y5.1 + Rows.uptoBulk y6.1 + Rows.uptoBulk y7.1 + Rows.uptoBulk y8.1 + 1 := by
        rw [hy]
        simp only [Rows.uptoBulk, Rows.uptoBulkAll, List.map_cons, List.map_nil]
        omega
      subst e0 e1 e2 e3 e4 e5 e6 e7 e8
      refine ⟨⟨x0, x1, x2, x3, x4, x5, x6, x7, c8, l8⟩, rfl, b8, ⟨w0, w1, w2, w3, w4⟩, ?_⟩
      show x5.size + x6.size + x7.size + l8.length ≤ _
      omega

theorem res_v {H : Type} {enc : TypeId × Value → H} {W : World} {fuel : Nat} {cs : List Value} {y : DataW H × List MemPlace}
    (hf : DataW.trod enc Tryd.prog W 0 (fun _ => true) true fuel 30 cs = some y) : ∃ r : Rs, cs = r.vals.toList ∧ BAt W r.dv r.dl ∧ EAt W r.lv r.es ∧ (∀ x ∈ r.nums, isI x) ∧ r.dl.length ≤ Rows.uptoBulk y.1 ∧ (∀ e ∈ r.es, e.name.size ≤ Rows.uptoBulk y.1 ∧ isI e.id ∧ isI e.kind) ∧ r.es.length ≤ Rows.uptoBulk y.1 := by
  obtain ⟨xs, n, _, hy, hl, hn, hfs⟩ := DataW.trod_struct Tryd.underlying30 hf
  rw [cellsRes] at hl
  match cs, hl with
  | [c0, c1, c2, c3, c4, c5, c6, c7, c8, c9, c10], _ =>
    match xs, hn with
    | [y0, y1, y2, y3, y4, y5, y6, y7], _ =>
      have f0 : DataW.trod enc Tryd.prog W 0 (fun _ => true) true n 3 (([c0, c1, c2, c3, c4, c5, c6, c7, c8, c9, c10].drop 0).take (Tryd.prog.cellsOf 3)) = some y0 := hfs 0 _ rfl
      rw [cellsI] at f0
      obtain ⟨x0, e0, w0⟩ := int_v Tryd.underlying3 f0
      have f1 : DataW.trod enc Tryd.prog W 0 (fun _ => true) true n 3 (([c0, c1, c2, c3, c4, c5, c6, c7, c8, c9, c10].drop 1).take (Tryd.prog.cellsOf 3)) = some y1 := hfs 1 _ rfl
      rw [cellsI] at f1
      obtain ⟨x1, e1, w1⟩ := int_v Tryd.underlying3 f1
      have f2 : DataW.trod enc Tryd.prog W 0 (fun _ => true) true n 22 (([c0, c1, c2, c3, c4, c5, c6, c7, c8, c9, c10].drop 2).take (Tryd.prog.cellsOf 22)) = some y2 := hfs 2 _ rfl
      rw [cellsN] at f2
      obtain ⟨x2, e2, w2⟩ := int_v Tryd.underlying22 f2
      have f3 : DataW.trod enc Tryd.prog W 0 (fun _ => true) true n 3 (([c0, c1, c2, c3, c4, c5, c6, c7, c8, c9, c10].drop 3).take (Tryd.prog.cellsOf 3)) = some y3 := hfs 3 _ rfl
      rw [cellsI] at f3
      obtain ⟨x3, e3, w3⟩ := int_v Tryd.underlying3 f3
      have f4 : DataW.trod enc Tryd.prog W 0 (fun _ => true) true n 27 (([c0, c1, c2, c3, c4, c5, c6, c7, c8, c9, c10].drop 4).take (Tryd.prog.cellsOf 27)) = some y4 := hfs 4 _ rfl
      rw [cellsAttr] at f4
      obtain ⟨x4a, x4b, x4c, x4d, e4, w4⟩ := attr_v f4
      have f5 : DataW.trod enc Tryd.prog W 0 (fun _ => true) true n 23 (([c0, c1, c2, c3, c4, c5, c6, c7, c8, c9, c10].drop 8).take (Tryd.prog.cellsOf 23)) = some y5 := hfs 5 _ rfl
      rw [cellsB] at f5
      obtain ⟨x5, l5, e5, b5, w5⟩ := bytes_v f5
      have f6 : DataW.trod enc Tryd.prog W 0 (fun _ => true) true n 28 (([c0, c1, c2, c3, c4, c5, c6, c7, c8, c9, c10].drop 9).take (Tryd.prog.cellsOf 28)) = some y6 := hfs 6 _ rfl
      rw [cellsL] at f6
      obtain ⟨x6, l6, e6, b6, w6, z6⟩ := ents_v f6
      have f7 : DataW.trod enc Tryd.prog W 0 (fun _ => true) true n 4 (([c0, c1, c2, c3, c4, c5, c6, c7, c8, c9, c10].drop 10).take (Tryd.prog.cellsOf 4)) = some y7 := hfs 7 _ rfl
      rw [cellsF] at f7
      obtain ⟨x7, e7, _⟩ := DataW.trod_bool Tryd.underlying4 f7
      simp only [List.drop_zero, List.drop_succ_cons, List.take_succ_cons, List.take_zero, List.cons.injEq, and_true] at e0 e1 e2 e3 e4 e5 e6 e7
      have hB : Rows.uptoBulk y.1 = Rows.uptoBulk y0.1 + Rows.uptoBulk y1.1 + Rows.uptoBulk y2.1 + Rows.uptoBulk y3.1 + Rows.uptoBulk y4.1 + Rows.uptoBulk y5.1 + Rows.uptoBulk y6.1 + Rows.uptoBulk y7.1 + 1 := by
        rw [hy]
        simp only [Rows.uptoBulk, Rows.uptoBulkAll, List.map_cons, List.map_nil]
        omega
      obtain ⟨e4a, e4b, e4c, e4d⟩ := e4
      obtain ⟨w4a, w4b, w4c, w4d⟩ := w4
      subst e0 e1 e2 e3 e4a e4b e4c e4d e5 e6 e7
      have hm : isI (if x7 = true then 1 else 0) := by split <;> exact ⟨by decide, by decide⟩
      refine ⟨⟨x0, x1, x2, x3, x4a, x4b, x4c, x4d, c8, l5, c9, l6, x7⟩, rfl, b5, b6, ?_, by show l5.length ≤ _; omega, fun e he => ?_, by show l6.length ≤ _; omega⟩
      · intro x hx
        simp only [Rs.nums, List.mem_cons, List.not_mem_nil, or_false] at hx
        rcases hx with rfl | rfl | rfl | rfl | rfl | rfl | rfl | rfl | rfl <;> assumption
      · obtain ⟨h1, h2⟩ := z6 e he
        exact ⟨by omega, h2⟩

theorem han_v {H : Type} {enc : TypeId × Value → H} {W : World} {fuel : Nat} {cs : List Value} {y : DataW H × List MemPlace}
    (hf : DataW.trod enc Tryd.prog W 0 (fun _ => true) true fuel 32 cs = some y) : ∃ a b c s, cs = [.int .i64 a, .int .i64 b, .int .i64 c, .string s] ∧ (isI a ∧ isI b ∧ isI c) ∧ s.size ≤ Rows.uptoBulk y.1 := by
  obtain ⟨xs, n, _, hy, hl, hn, hfs⟩ := DataW.trod_struct Tryd.underlying32 hf
  rw [cellsHan] at hl
  match cs, hl with
  | [c0, c1, c2, c3], _ =>
    match xs, hn with
    | [y0, y1, y2, y3], _ =>
      have f0 : DataW.trod enc Tryd.prog W 0 (fun _ => true) true n 3 (([c0, c1, c2, c3].drop 0).take (Tryd.prog.cellsOf 3)) = some y0 := hfs 0 _ rfl
      rw [cellsI] at f0
      obtain ⟨x0, e0, w0⟩ := int_v Tryd.underlying3 f0
      have f1 : DataW.trod enc Tryd.prog W 0 (fun _ => true) true n 3 (([c0, c1, c2, c3].drop 1).take (Tryd.prog.cellsOf 3)) = some y1 := hfs 1 _ rfl
      rw [cellsI] at f1
      obtain ⟨x1, e1, w1⟩ := int_v Tryd.underlying3 f1
      have f2 : DataW.trod enc Tryd.prog W 0 (fun _ => true) true n 3 (([c0, c1, c2, c3].drop 2).take (Tryd.prog.cellsOf 3)) = some y2 := hfs 2 _ rfl
      rw [cellsI] at f2
      obtain ⟨x2, e2, w2⟩ := int_v Tryd.underlying3 f2
      have f3 : DataW.trod enc Tryd.prog W 0 (fun _ => true) true n 9 (([c0, c1, c2, c3].drop 3).take (Tryd.prog.cellsOf 9)) = some y3 := hfs 3 _ rfl
      rw [cellsS] at f3
      obtain ⟨x3, e3, w3⟩ := str_v f3
      simp only [List.drop_zero, List.drop_succ_cons, List.take_succ_cons, List.take_zero, List.cons.injEq, and_true] at e0 e1 e2 e3
      have hB : Rows.uptoBulk y.1 = Rows.uptoBulk y0.1 + Rows.uptoBulk y1.1 + Rows.uptoBulk y2.1 + Rows.uptoBulk y3.1 + 1 := by
        rw [hy]
        simp only [Rows.uptoBulk, Rows.uptoBulkAll, List.map_cons, List.map_nil]
        omega
      subst e0 e1 e2 e3
      exact ⟨x0, x1, x2, x3, rfl, ⟨w0, w1, w2⟩, by omega⟩

theorem kep_v {H : Type} {enc : TypeId × Value → H} {W : World} {fuel : Nat} {cs : List Value} {y : DataW H × List MemPlace}
    (hf : DataW.trod enc Tryd.prog W 0 (fun _ => true) true fuel 34 cs = some y) : ∃ a b c v l, cs = [.int .i64 a, .int .i64 b, .int .i64 c, v] ∧ (isI a ∧ isI b ∧ isI c) ∧ BAt W v l ∧ l.length ≤ Rows.uptoBulk y.1 := by
  obtain ⟨xs, n, _, hy, hl, hn, hfs⟩ := DataW.trod_struct Tryd.underlying34 hf
  rw [cellsKep] at hl
  match cs, hl with
  | [c0, c1, c2, c3], _ =>
    match xs, hn with
    | [y0, y1, y2, y3], _ =>
      have f0 : DataW.trod enc Tryd.prog W 0 (fun _ => true) true n 3 (([c0, c1, c2, c3].drop 0).take (Tryd.prog.cellsOf 3)) = some y0 := hfs 0 _ rfl
      rw [cellsI] at f0
      obtain ⟨x0, e0, w0⟩ := int_v Tryd.underlying3 f0
      have f1 : DataW.trod enc Tryd.prog W 0 (fun _ => true) true n 3 (([c0, c1, c2, c3].drop 1).take (Tryd.prog.cellsOf 3)) = some y1 := hfs 1 _ rfl
      rw [cellsI] at f1
      obtain ⟨x1, e1, w1⟩ := int_v Tryd.underlying3 f1
      have f2 : DataW.trod enc Tryd.prog W 0 (fun _ => true) true n 3 (([c0, c1, c2, c3].drop 2).take (Tryd.prog.cellsOf 3)) = some y2 := hfs 2 _ rfl
      rw [cellsI] at f2
      obtain ⟨x2, e2, w2⟩ := int_v Tryd.underlying3 f2
      have f3 : DataW.trod enc Tryd.prog W 0 (fun _ => true) true n 23 (([c0, c1, c2, c3].drop 3).take (Tryd.prog.cellsOf 23)) = some y3 := hfs 3 _ rfl
      rw [cellsB] at f3
      obtain ⟨x3, l3, e3, b3, w3⟩ := bytes_v f3
      simp only [List.drop_zero, List.drop_succ_cons, List.take_succ_cons, List.take_zero, List.cons.injEq, and_true] at e0 e1 e2 e3
      have hB : Rows.uptoBulk y.1 = Rows.uptoBulk y0.1 + Rows.uptoBulk y1.1 + Rows.uptoBulk y2.1 + Rows.uptoBulk y3.1 + 1 := by
        rw [hy]
        simp only [Rows.uptoBulk, Rows.uptoBulkAll, List.map_cons, List.map_nil]
        omega
      subst e0 e1 e2 e3
      exact ⟨x0, x1, x2, c3, l3, rfl, ⟨w0, w1, w2⟩, b3, by omega⟩

theorem fli_v {H : Type} {enc : TypeId × Value → H} {W : World} {fuel : Nat} {cs : List Value} {y : DataW H × List MemPlace}
    (hf : DataW.trod enc Tryd.prog W 0 (fun _ => true) true fuel 36 cs = some y) : ∃ a b v l, cs = [.int .i64 a, .int .i64 b, v] ∧ (isI a ∧ isI b) ∧ BAt W v l ∧ l.length ≤ Rows.uptoBulk y.1 := by
  obtain ⟨xs, n, _, hy, hl, hn, hfs⟩ := DataW.trod_struct Tryd.underlying36 hf
  rw [cellsFli] at hl
  match cs, hl with
  | [c0, c1, c2], _ =>
    match xs, hn with
    | [y0, y1, y2], _ =>
      have f0 : DataW.trod enc Tryd.prog W 0 (fun _ => true) true n 3 (([c0, c1, c2].drop 0).take (Tryd.prog.cellsOf 3)) = some y0 := hfs 0 _ rfl
      rw [cellsI] at f0
      obtain ⟨x0, e0, w0⟩ := int_v Tryd.underlying3 f0
      have f1 : DataW.trod enc Tryd.prog W 0 (fun _ => true) true n 3 (([c0, c1, c2].drop 1).take (Tryd.prog.cellsOf 3)) = some y1 := hfs 1 _ rfl
      rw [cellsI] at f1
      obtain ⟨x1, e1, w1⟩ := int_v Tryd.underlying3 f1
      have f2 : DataW.trod enc Tryd.prog W 0 (fun _ => true) true n 23 (([c0, c1, c2].drop 2).take (Tryd.prog.cellsOf 23)) = some y2 := hfs 2 _ rfl
      rw [cellsB] at f2
      obtain ⟨x2, l2, e2, b2, w2⟩ := bytes_v f2
      simp only [List.drop_zero, List.drop_succ_cons, List.take_succ_cons, List.take_zero, List.cons.injEq, and_true] at e0 e1 e2
      have hB : Rows.uptoBulk y.1 = Rows.uptoBulk y0.1 + Rows.uptoBulk y1.1 + Rows.uptoBulk y2.1 + 1 := by
        rw [hy]
        simp only [Rows.uptoBulk, Rows.uptoBulkAll, List.map_cons, List.map_nil]
        omega
      subst e0 e1 e2
      exact ⟨x0, x1, c2, l2, rfl, ⟨w0, w1⟩, b2, by omega⟩

theorem list18 (l : List Value) (h : l.length = 18) : ∃ c0 c1 c2 c3 c4 c5 c6 c7 c8 c9 c10 c11 c12 c13 c14 c15 c16 c17 : Value, l = [c0, c1, c2, c3, c4, c5, c6, c7, c8, c9, c10, c11, c12, c13, c14, c15, c16, c17] :=
  match l, h with
  | [c0, c1, c2, c3, c4, c5, c6, c7, c8, c9, c10, c11, c12, c13, c14, c15, c16, c17], _ => ⟨c0, c1, c2, c3, c4, c5, c6, c7, c8, c9, c10, c11, c12, c13, c14, c15, c16, c17, rfl⟩
theorem list36 (l : List Value) (h : l.length = 36) : ∃ c0 c1 c2 c3 c4 c5 c6 c7 c8 c9 c10 c11 c12 c13 c14 c15 c16 c17 c18 c19 c20 c21 c22 c23 c24 c25 c26 c27 c28 c29 c30 c31 c32 c33 c34 c35 : Value, l = [c0, c1, c2, c3, c4, c5, c6, c7, c8, c9, c10, c11, c12, c13, c14, c15, c16, c17, c18, c19, c20, c21, c22, c23, c24, c25, c26, c27, c28, c29, c30, c31, c32, c33, c34, c35] := by
  obtain ⟨c0, c1, c2, c3, c4, c5, c6, c7, c8, c9, c10, c11, c12, c13, c14, c15, c16, c17, h1⟩ := list18 (l.take 18) (by rw [List.length_take]; omega)
  obtain ⟨d0, d1, d2, d3, d4, d5, d6, d7, d8, d9, d10, d11, d12, d13, d14, d15, d16, d17, h2⟩ := list18 (l.drop 18) (by rw [List.length_drop]; omega)
  refine ⟨c0, c1, c2, c3, c4, c5, c6, c7, c8, c9, c10, c11, c12, c13, c14, c15, c16, c17, d0, d1, d2, d3, d4, d5, d6, d7, d8, d9, d10, d11, d12, d13, d14, d15, d16, d17, ?_⟩
  rw [← List.take_append_drop 18 l, h1, h2]
  rfl
theorem event_v {H : Type} {enc : TypeId × Value → H} {W : World} {fuel : Nat} {cs : List Value} {y : DataW H × List MemPlace}
    (hf : DataW.trod enc Tryd.prog W 0 (fun _ => true) true fuel 38 cs = some y) : ∃ e : Ev, cs = e.vals.toList ∧ (Rows.uptoBulk y.1 ≤ 1048576 → e.Ok W) := by
  obtain ⟨xs, n, _, hy, hl, hn, hfs⟩ := DataW.trod_struct Tryd.underlying38 hf
  rw [cellsEv] at hl
  obtain ⟨c0, c1, c2, c3, c4, c5, c6, c7, c8, c9, c10, c11, c12, c13, c14, c15, c16, c17, c18, c19, c20, c21, c22, c23, c24, c25, c26, c27, c28, c29, c30, c31, c32, c33, c34, c35, rfl⟩ := list36 cs hl
  match xs, hn with
  | [y0, y1, y2, y3, y4, y5, y6, y7, y8, y9], _ =>
      have f0 : DataW.trod enc Tryd.prog W 0 (fun _ => true) true n 3 (([c0, c1, c2, c3, c4, c5, c6, c7, c8, c9, c10, c11, c12, c13, c14, c15, c16, c17, c18, c19, c20, c21, c22, c23, c24, c25, c26, c27, c28, c29, c30, c31, c32, c33, c34, c35].drop 0).take (Tryd.prog.cellsOf 3)) = some y0 := hfs 0 _ rfl
      rw [cellsI] at f0
      obtain ⟨x0, e0, w0⟩ := int_v Tryd.underlying3 f0
      have f1 : DataW.trod enc Tryd.prog W 0 (fun _ => true) true n 3 (([c0, c1, c2, c3, c4, c5, c6, c7, c8, c9, c10, c11, c12, c13, c14, c15, c16, c17, c18, c19, c20, c21, c22, c23, c24, c25, c26, c27, c28, c29, c30, c31, c32, c33, c34, c35].drop 1).take (Tryd.prog.cellsOf 3)) = some y1 := hfs 1 _ rfl
      rw [cellsI] at f1
      obtain ⟨x1, e1, w1⟩ := int_v Tryd.underlying3 f1
      have f2 : DataW.trod enc Tryd.prog W 0 (fun _ => true) true n 3 (([c0, c1, c2, c3, c4, c5, c6, c7, c8, c9, c10, c11, c12, c13, c14, c15, c16, c17, c18, c19, c20, c21, c22, c23, c24, c25, c26, c27, c28, c29, c30, c31, c32, c33, c34, c35].drop 2).take (Tryd.prog.cellsOf 3)) = some y2 := hfs 2 _ rfl
      rw [cellsI] at f2
      obtain ⟨x2, e2, w2⟩ := int_v Tryd.underlying3 f2
      have f3 : DataW.trod enc Tryd.prog W 0 (fun _ => true) true n 3 (([c0, c1, c2, c3, c4, c5, c6, c7, c8, c9, c10, c11, c12, c13, c14, c15, c16, c17, c18, c19, c20, c21, c22, c23, c24, c25, c26, c27, c28, c29, c30, c31, c32, c33, c34, c35].drop 3).take (Tryd.prog.cellsOf 3)) = some y3 := hfs 3 _ rfl
      rw [cellsI] at f3
      obtain ⟨x3, e3, w3⟩ := int_v Tryd.underlying3 f3
      have f4 : DataW.trod enc Tryd.prog W 0 (fun _ => true) true n 22 (([c0, c1, c2, c3, c4, c5, c6, c7, c8, c9, c10, c11, c12, c13, c14, c15, c16, c17, c18, c19, c20, c21, c22, c23, c24, c25, c26, c27, c28, c29, c30, c31, c32, c33, c34, c35].drop 4).take (Tryd.prog.cellsOf 22)) = some y4 := hfs 4 _ rfl
      rw [cellsN] at f4
      obtain ⟨x4, e4, w4⟩ := int_v Tryd.underlying22 f4
      have f5 : DataW.trod enc Tryd.prog W 0 (fun _ => true) true n 25 (([c0, c1, c2, c3, c4, c5, c6, c7, c8, c9, c10, c11, c12, c13, c14, c15, c16, c17, c18, c19, c20, c21, c22, c23, c24, c25, c26, c27, c28, c29, c30, c31, c32, c33, c34, c35].drop 5).take (Tryd.prog.cellsOf 25)) = some y5 := hfs 5 _ rfl
      rw [cellsCall] at f5
      obtain ⟨x5, e5, b5, n5, w5⟩ := call_v f5
      have f6 : DataW.trod enc Tryd.prog W 0 (fun _ => true) true n 30 (([c0, c1, c2, c3, c4, c5, c6, c7, c8, c9, c10, c11, c12, c13, c14, c15, c16, c17, c18, c19, c20, c21, c22, c23, c24, c25, c26, c27, c28, c29, c30, c31, c32, c33, c34, c35].drop 14).take (Tryd.prog.cellsOf 30)) = some y6 := hfs 6 _ rfl
      rw [cellsRes] at f6
      obtain ⟨x6, e6, b6, v6, n6, m6, z6, w6⟩ := res_v f6
      have f7 : DataW.trod enc Tryd.prog W 0 (fun _ => true) true n 32 (([c0, c1, c2, c3, c4, c5, c6, c7, c8, c9, c10, c11, c12, c13, c14, c15, c16, c17, c18, c19, c20, c21, c22, c23, c24, c25, c26, c27, c28, c29, c30, c31, c32, c33, c34, c35].drop 25).take (Tryd.prog.cellsOf 32)) = some y7 := hfs 7 _ rfl
      rw [cellsHan] at f7
      obtain ⟨x7a, x7b, x7c, x7d, e7, n7, w7⟩ := han_v f7
      have f8 : DataW.trod enc Tryd.prog W 0 (fun _ => true) true n 34 (([c0, c1, c2, c3, c4, c5, c6, c7, c8, c9, c10, c11, c12, c13, c14, c15, c16, c17, c18, c19, c20, c21, c22, c23, c24, c25, c26, c27, c28, c29, c30, c31, c32, c33, c34, c35].drop 29).take (Tryd.prog.cellsOf 34)) = some y8 := hfs 8 _ rfl
      rw [cellsKep] at f8
      obtain ⟨x8a, x8b, x8c, x8d, l8, e8, n8, b8, w8⟩ := kep_v f8
      have f9 : DataW.trod enc Tryd.prog W 0 (fun _ => true) true n 36 (([c0, c1, c2, c3, c4, c5, c6, c7, c8, c9, c10, c11, c12, c13, c14, c15, c16, c17, c18, c19, c20, c21, c22, c23, c24, c25, c26, c27, c28, c29, c30, c31, c32, c33, c34, c35].drop 33).take (Tryd.prog.cellsOf 36)) = some y9 := hfs 9 _ rfl
      rw [cellsFli] at f9
      obtain ⟨x9a, x9b, x9d, l9, e9, n9, b9, w9⟩ := fli_v f9
      simp only [List.drop_zero, List.drop_succ_cons, List.take_succ_cons, List.take_zero, Cl.vals, Rs.vals, List.cons.injEq, and_true] at e0 e1 e2 e3 e4 e5 e6 e7 e8 e9
      have hB : Rows.uptoBulk y.1 = Rows.uptoBulk y0.1 + Rows.uptoBulk y1.1 + Rows.uptoBulk y2.1 + Rows.uptoBulk y3.1 + Rows.uptoBulk y4.1 + Rows.uptoBulk y5.1 + Rows.uptoBulk y6.1 + Rows.uptoBulk y7.1 + Rows.uptoBulk y8.1 + Rows.uptoBulk y9.1 + 1 := by
        rw [hy]
        simp only [Rows.uptoBulk, Rows.uptoBulkAll, List.map_cons, List.map_nil]
        omega
      obtain ⟨u5_0, u5_1, u5_2, u5_3, u5_4, u5_5, u5_6, u5_7, u5_8⟩ := e5
      obtain ⟨u6_0, u6_1, u6_2, u6_3, u6_4, u6_5, u6_6, u6_7, u6_8, u6_9, u6_10⟩ := e6
      obtain ⟨u7_0, u7_1, u7_2, u7_3⟩ := e7
      obtain ⟨u8_0, u8_1, u8_2, u8_3⟩ := e8
      obtain ⟨u9_0, u9_1, u9_2⟩ := e9
      obtain ⟨n7a, n7b, n7c⟩ := n7
      obtain ⟨n8a, n8b, n8c⟩ := n8
      obtain ⟨n9a, n9b⟩ := n9
      subst e0 e1 e2 e3 e4 u5_0 u5_1 u5_2 u5_3 u5_4 u5_5 u5_6 u5_7 u5_8 u6_0 u6_1 u6_2 u6_3 u6_4 u6_5 u6_6 u6_7 u6_8 u6_9 u6_10 u7_0 u7_1 u7_2 u7_3 u8_0 u8_1 u8_2 u8_3 u9_0 u9_1 u9_2
      refine ⟨⟨x0, x1, x2, x3, x4, x5, x6, x7a, x7b, x7c, x7d, x8a, x8b, x8c, c32, l8, x9a, x9b, c35, l9⟩, rfl, fun hb => ?_⟩
      have hsm : x5.bytes ≤ 1048576 := by omega
      have hs2 : x5.path.size + x5.name.size + x5.name2.size + x5.dl.length ≤ 1048576 := hsm
      exact {
        ints := ⟨w1, w2, w3, w4, n7a, n7b, n7c, n8a, n8b, n8c, n9a, n9b⟩
        csm := ⟨by show x5.path.size ≤ _; omega, by show x5.name.size ≤ _; omega, by show x5.name2.size ≤ _; omega, by show x5.dl.length ≤ _; omega⟩
        cby := hsm
        cin := n5
        cli := b5
        res := ⟨b6, v6, by show x6.dl.length ≤ _; omega, by show x6.es.length ≤ _; omega, fun e he => by
          obtain ⟨h1, h2, h3⟩ := z6 e he
          exact ⟨by omega, h2, h3⟩, n6⟩
        hps := by show x7d.size ≤ _; omega
        kat := b8
        kle := by show l8.length ≤ _; omega
        fat := b9
        fle := by show l9.length ≤ _; omega }

end Go.Proofs.YtjkmdacgiebbfaaDoor
