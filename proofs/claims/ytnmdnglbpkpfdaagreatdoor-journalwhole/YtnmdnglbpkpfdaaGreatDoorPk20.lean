/- Puts, and lists of them, that came in, opened once. -/
import Derived.Test.YtnmdnglbpkpfdaaGreatDoorPk03
import Derived.Test.YtnmdnglbpkpfdaaGreatDoorPk19
namespace Go.Proofs.YtnmdnglbpkpfdaaGreatDoor
open Go.ChangeShapes Go.WideShapes Go.ChangeAt Go.RowKit Go.Deep
set_option maxRecDepth 100000
theorem bytesPt : 1 ≤ Tryz.prog.bytesOf 58 := of_decide_eq_true (by kernel_rfl)
theorem bytesPs : 1 ≤ Tryz.prog.bytesOf 23 := of_decide_eq_true (by kernel_rfl)
theorem cellsPs : Tryz.prog.cellsOf 23 = 1 := by kernel_rfl
theorem pt_of {H : Type} {enc : TypeId × Value → H} {W : World} {fuel : Nat} {cs : List Value} {y : DataW H × List MemPlace} {a : Addr}
    (hc : W.cells? 0 a 2 = some cs) (hf : DataW.trod enc Tryz.prog W 0 (fun _ => true) true fuel 58 cs = some y) :
    ∃ o : Pt, (∀ j v, o.cells[j]? = some v → W.cell? (a.add j) = some v) ∧ ((∀ n ∈ y.1.weights Tryz.prog 58, n ≤ reachBytes) → PtIn W o) := by
  obtain ⟨xs, n, _, hy, hl, hn, hfs⟩ := DataW.trod_struct Tryz.underlying58 hf
  rw [cellsPt] at hl
  obtain ⟨_, hlen, hcell⟩ := World.cells?_some hc
  match cs, hl with
  | [c0, c1], _ =>
    match xs, hn with
    | [y0, y1], _ =>
      have f0 : DataW.trod enc Tryz.prog W 0 (fun _ => true) true n 3 (([c0, c1].drop 0).take (Tryz.prog.cellsOf 3)) = some y0 := hfs 0 _ rfl
      have f1 : DataW.trod enc Tryz.prog W 0 (fun _ => true) true n 56 (([c0, c1].drop 1).take (Tryz.prog.cellsOf 56)) = some y1 := hfs 1 _ rfl
      rw [cells3] at f0
      rw [cells33] at f1
      obtain ⟨K0, e0, _, _⟩ := DataW.trod_int Tryz.underlying3 f0
      obtain ⟨da, dn, dc, Z, e1, hL, hs, hb⟩ := view_bytes f1
      simp at e0 e1
      subst e0 e1
      refine ⟨⟨K0, da, dn, dc, Z⟩, fun j v hv => ?_, fun hall => ⟨hL, hs, ?_⟩⟩
      · have hj : j < 2 := (List.getElem?_eq_some_iff.1 hv).1
        rw [hcell j hj]
        exact hv
      · have := hb (fun k hk => hall k (by
          rw [hy]
          simp only [DataW.weights, Tryz.underlying58, List.map_cons, List.map_nil, DataW.weightsEach]
          simp [hk]))
        exact Nat.le_trans this (by decide)
theorem view_pts {H : Type} {enc : TypeId × Value → H} {W : World} {fuel : Nat} {cs : List Value} {y : DataW H × List MemPlace}
    (hf : DataW.trod enc Tryz.prog W 0 (fun _ => true) true fuel 23 cs = some y) (hall : ∀ n ∈ y.1.weights Tryz.prog 23, n ≤ reachBytes) :
    ∃ a0 len cap ps, cs = [.slice a0 len cap] ∧ len ≤ 140737488355328 ∧ PtLies W a0 len ps := by
  rcases open_slice Tryz.underlying23 hf with ⟨hcs, hx⟩ | ⟨a, len, cap, m, n, D, Pl, hcs, _, hl, hm, hmm, hx, hel⟩
  · exact ⟨none, 0, 0, [], by rw [hcs], by omega, rfl, fun j s h => by simp at h⟩
  · simp only [if_true] at hmm
    subst hmm
    rw [cellsPt] at hel
    have hw : ∀ i, i < len → ∀ k ∈ (D i).weights Tryz.prog 58, k ≤ reachBytes := fun i hi k hk => hall k (by
      rw [hx]
      simp only [DataW.weights, Tryz.underlying23]
      refine List.mem_cons_of_mem _ (List.mem_append_left _ ?_)
      exact weights_all_mem (List.mem_map.2 ⟨i, List.mem_range.2 hi, rfl⟩) hk)
    have hinh : Inhabited Pt := ⟨⟨0, none, 0, 0, []⟩⟩
    obtain ⟨X, hX⟩ := choose_lt (α := Pt) (p := fun i x => (∀ j v, x.cells[j]? = some v → W.cell? ((a.add (i * 2)).add j) = some v) ∧ PtIn W x) (n := len) (fun i hi => by
      obtain ⟨cs', h1, h2⟩ := hel i (by omega)
      obtain ⟨d, hd, hI⟩ := pt_of h1 h2
      exact ⟨d, hd, hI (hw i hi)⟩)
    refine ⟨some a, len, m, (List.range len).map X, by rw [hcs], ?_, ⟨by simp, fun j s hj => ?_⟩⟩
    · have h1 := hall ((((List.range len).map D).length + ((List.range (m - len)).map fun j => D (len + j)).length) * Tryz.prog.bytesOf 58) (by rw [hx]; simp [DataW.weights, Tryz.underlying23])
      have h2 : len * 1 ≤ (((List.range len).map D).length + ((List.range (m - len)).map fun j => D (len + j)).length) * Tryz.prog.bytesOf 58 := Nat.mul_le_mul (by simp) bytesPt
      exact Nat.le_trans (by omega) (Nat.le_trans h1 (by decide))
    · have hjl : j < len := by
        have := (List.getElem?_eq_some_iff.1 hj).1
        simpa using this
      obtain ⟨h0, hI⟩ := hX j hjl
      simp [hjl] at hj
      subst hj
      have q00 := (hX 0 (by omega)).1 0 _ rfl
      obtain ⟨b', o, spot⟩ := a
      have hspot : spot = none := by simpa [Addr.add] using World.cell?_spot q00
      subst hspot
      refine ⟨hI, b', o, rfl, fun t v hv => ?_⟩
      have := h0 t v hv
      rw [Addr.add_lit, Addr.add_lit] at this
      exact this
theorem view_txs {H : Type} {enc : TypeId × Value → H} {W : World} {fuel : Nat} {cs : List Value} {y : DataW H × List MemPlace}
    (hf : DataW.trod enc Tryz.prog W 0 (fun _ => true) true fuel 22 cs = some y) (hall : ∀ n ∈ y.1.weights Tryz.prog 22, n ≤ reachBytes) :
    ∃ a0 len cap ts, cs = [.slice a0 len cap] ∧ len ≤ 140737488355328 ∧ TxsLies W a0 len ts := by
  rcases open_slice Tryz.underlying22 hf with ⟨hcs, hx⟩ | ⟨a, len, cap, m, n, D, Pl, hcs, _, hl, hm, hmm, hx, hel⟩
  · exact ⟨none, 0, 0, [], by rw [hcs], by omega, rfl, fun j s h => by simp at h⟩
  · simp only [if_true] at hmm
    subst hmm
    rw [cellsPs] at hel
    have hw : ∀ i, i < len → ∀ k ∈ (D i).weights Tryz.prog 23, k ≤ reachBytes := fun i hi k hk => hall k (by
      rw [hx]
      simp only [DataW.weights, Tryz.underlying22]
      refine List.mem_cons_of_mem _ (List.mem_append_left _ ?_)
      exact weights_all_mem (List.mem_map.2 ⟨i, List.mem_range.2 hi, rfl⟩) hk)
    have hinh : Inhabited TxIn := ⟨⟨none, 0, 0, []⟩⟩
    obtain ⟨X, hX⟩ := choose_lt (α := TxIn) (p := fun i x => W.cell? ((a.add (i * 1)).add 0) = some (.slice x.pa x.pn x.pc) ∧ PtLies W x.pa x.pn x.ps ∧ x.pn ≤ 140737488355328) (n := len) (fun i hi => by
      obtain ⟨cs', h1, h2⟩ := hel i (by omega)
      obtain ⟨a0, l0, c0, ps, rfl, hl0, hP⟩ := view_pts h2 (hw i hi)
      obtain ⟨_, hlen, hcell⟩ := World.cells?_some h1
      refine ⟨⟨a0, l0, c0, ps⟩, ?_, hP, hl0⟩
      exact hcell 0 (by omega))
    refine ⟨some a, len, m, (List.range len).map X, by rw [hcs], ?_, ⟨by simp, fun j s hj => ?_⟩⟩
    · have h1 := hall ((((List.range len).map D).length + ((List.range (m - len)).map fun j => D (len + j)).length) * Tryz.prog.bytesOf 23) (by rw [hx]; simp [DataW.weights, Tryz.underlying22])
      have h2 : len * 1 ≤ (((List.range len).map D).length + ((List.range (m - len)).map fun j => D (len + j)).length) * Tryz.prog.bytesOf 23 := Nat.mul_le_mul (by simp) bytesPs
      exact Nat.le_trans (by omega) (Nat.le_trans h1 (by decide))
    · have hjl : j < len := by
        have := (List.getElem?_eq_some_iff.1 hj).1
        simpa using this
      obtain ⟨h0, hP, hp⟩ := hX j hjl
      simp [hjl] at hj
      subst hj
      obtain ⟨b', o, spot⟩ := a
      have hspot : spot = none := by simpa [Addr.add] using World.cell?_spot (hX 0 (by omega)).1
      subst hspot
      refine ⟨⟨hP, hp⟩, b', o, rfl, ?_⟩
      rw [Addr.add_lit, Addr.add_lit] at h0
      simpa using h0
section
variable {H : Type} {enc : TypeId × Value → H} {P : Program} {w : World} {base : Nat} {spare : Nat → Bool} {held : Bool}
theorem trodAll_five {t t' t'' t3 t4 : TypeId} {args : Array Value} {ds : List (DataW H)} {ps : List MemPlace} (h : DataW.TrodAll enc P w base spare held [t, t', t'', t3, t4] args.toList ds ps) :
    ∃ v v' v'' v3 v4 d d' d'' d3 d4 p p' p'' p3 p4, args = #[v, v', v'', v3, v4] ∧ ds = [d, d', d'', d3, d4] ∧ ps = p ++ p' ++ p'' ++ p3 ++ p4 ∧ DataW.Trod enc P w base spare held t v d p ∧ DataW.Trod enc P w base spare held t' v' d' p' ∧ DataW.Trod enc P w base spare held t'' v'' d'' p'' ∧ DataW.Trod enc P w base spare held t3 v3 d3 p3 ∧ DataW.Trod enc P w base spare held t4 v4 d4 p4 := by
  obtain ⟨a, vs, b, bs, p, q, hargs, rfl, rfl, hb, hr⟩ := trodAll_cons h
  have hr' : DataW.TrodAll enc P w base spare held [t', t'', t3, t4] vs.toArray.toList bs q := by simpa using hr
  obtain ⟨v0, v1, v2, v3, d0, d1, d2, d3, p0, p1, p2, p3, has, rfl, rfl, h0, h1, h2, h3⟩ := trodAll_four hr'
  have has' : vs = [v0, v1, v2, v3] := by simpa using has
  subst has'
  exact ⟨a, v0, v1, v2, v3, b, d0, d1, d2, d3, p, p0, p1, p2, p3, by cases args; simp_all, rfl, by simp, hb, h0, h1, h2, h3⟩
theorem trodAll_mk5 {t t' t'' t3 t4 : TypeId} {v v' v'' v3 v4 : Value} {d d' d'' d3 d4 : DataW H} {p p' p'' p3 p4 : List MemPlace} (h : DataW.Trod enc P w base spare held t v d p) (h' : DataW.Trod enc P w base spare held t' v' d' p')
    (h'' : DataW.Trod enc P w base spare held t'' v'' d'' p'') (h3 : DataW.Trod enc P w base spare held t3 v3 d3 p3) (h4 : DataW.Trod enc P w base spare held t4 v4 d4 p4) :
    DataW.TrodAll enc P w base spare held [t, t', t'', t3, t4] [v, v', v'', v3, v4] [d, d', d'', d3, d4] (p ++ (p' ++ (p'' ++ (p3 ++ p4)))) := ⟨p, _, h, trodAll_mk4 h' h'' h3 h4, rfl⟩
end
end Go.Proofs.YtnmdnglbpkpfdaaGreatDoor

/- A list of bools, and a Fall, that came in. -/
namespace Go.Proofs.YtnmdnglbpkpfdaaGreatDoor
open Go.ChangeShapes Go.WideShapes Go.ChangeAt Go.RowKit Go.Deep
set_option maxRecDepth 100000
theorem cells4 : Tryz.prog.cellsOf 4 = 1 := by kernel_rfl
theorem bytes4 : Tryz.prog.bytesOf 4 = 1 := by kernel_rfl
theorem cells73 : Tryz.prog.cellsOf 73 = 1 := by kernel_rfl
theorem cellsFall : Tryz.prog.cellsOf 76 = 2 := by kernel_rfl
theorem view_bools {H : Type} {enc : TypeId × Value → H} {W : World} {fuel : Nat} {cs : List Value} {y : DataW H × List MemPlace}
    (hf : DataW.trod enc Tryz.prog W 0 (fun _ => true) true fuel 73 cs = some y) (hall : ∀ n ∈ y.1.weights Tryz.prog 73, n ≤ reachBytes) :
    ∃ a0 len cap ks, cs = [.slice a0 len cap] ∧ len ≤ 140737488355328 ∧ KLies W a0 len cap ks := by
  rcases open_slice Tryz.underlying73 hf with ⟨hcs, hx⟩ | ⟨a, len, cap, m, n, D, Pl, hcs, _, hl, hm, hmm, hx, hel⟩
  · exact ⟨none, 0, 0, [], by rw [hcs], by omega, rfl, Nat.le_refl _, fun j s h => by simp at h⟩
  · simp only [if_true] at hmm
    subst hmm
    rw [cells4] at hel
    obtain ⟨X, hX⟩ := choose_lt (α := Bool) (p := fun i x => W.cell? ((a.add (i * 1)).add 0) = some (.bool x)) (n := len) (fun i hi => by
      obtain ⟨cs', h1, h2⟩ := hel i (by omega)
      obtain ⟨x, e, _⟩ := DataW.trod_bool Tryz.underlying4 h2
      obtain ⟨_, hlen, hcell⟩ := World.cells?_some h1
      subst e
      exact ⟨x, hcell 0 (by omega)⟩)
    refine ⟨some a, len, m, (List.range len).map X, by rw [hcs], ?_, ⟨by simp, hl, fun j b hj => ?_⟩⟩
    · have h1 := hall ((((List.range len).map D).length + ((List.range (m - len)).map fun j => D (len + j)).length) * Tryz.prog.bytesOf 4) (by rw [hx]; simp [DataW.weights, Tryz.underlying73])
      rw [bytes4] at h1
      exact Nat.le_trans (by simp) (Nat.le_trans h1 (by decide))
    · have hjl : j < len := by
        have := (List.getElem?_eq_some_iff.1 hj).1
        simpa using this
      have h0 := hX j hjl
      simp [hjl] at hj
      subst hj
      obtain ⟨b', o, spot⟩ := a
      have hspot : spot = none := by simpa [Addr.add] using World.cell?_spot (hX 0 (by omega))
      subst hspot
      refine ⟨b', o, rfl, ?_⟩
      rw [Addr.add_lit, Addr.add_lit] at h0
      simpa using h0
theorem view_fall {H : Type} {enc : TypeId × Value → H} {W : World} {fuel : Nat} {cs : List Value} {y : DataW H × List MemPlace}
    (hf : DataW.trod enc Tryz.prog W 0 (fun _ => true) true fuel 76 cs = some y) (hall : ∀ n ∈ y.1.weights Tryz.prog 76, n ≤ reachBytes) :
    ∃ arm a0 len cap ks, cs = [.int .i64 arm, .slice a0 len cap] ∧ (Lit.int .i64 arm).wf = true ∧ len ≤ 140737488355328 ∧ KLies W a0 len cap ks := by
  obtain ⟨xs, n, _, hy, hl, hn, hfs⟩ := DataW.trod_struct Tryz.underlying76 hf
  rw [cellsFall] at hl
  match cs, hl with
  | [c0, c1], _ =>
    match xs, hn with
    | [y0, y1], _ =>
      have f0 : DataW.trod enc Tryz.prog W 0 (fun _ => true) true n 3 (([c0, c1].drop 0).take (Tryz.prog.cellsOf 3)) = some y0 := hfs 0 _ rfl
      have f1 : DataW.trod enc Tryz.prog W 0 (fun _ => true) true n 73 (([c0, c1].drop 1).take (Tryz.prog.cellsOf 73)) = some y1 := hfs 1 _ rfl
      rw [cells3] at f0
      rw [cells73] at f1
      obtain ⟨K0, e0, _, hwf⟩ := DataW.trod_int Tryz.underlying3 f0
      obtain ⟨a0, len, cap, ks, e1, h1, h2⟩ := view_bools f1 (fun k hk => hall k (by
          rw [hy]
          simp only [DataW.weights, Tryz.underlying76, List.map_cons, List.map_nil, DataW.weightsEach]
          simp [hk]))
      simp at e0 e1
      subst e0 e1
      exact ⟨K0, a0, len, cap, ks, rfl, hwf, h1, h2⟩
end Go.Proofs.YtnmdnglbpkpfdaaGreatDoor
