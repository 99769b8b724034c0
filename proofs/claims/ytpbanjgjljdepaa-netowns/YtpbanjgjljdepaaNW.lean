/- Lists of steps, of fates and of lists of bytes that came in, opened once. (Written by mkNV.py.) -/
import Derived.Test.YtpbanjgjljdepaaNV
namespace Go.Proofs.Ytpbanjgjljdepaa
open Go.ChangeShapes Go.WideShapes Go.ChangeAt Go.RowKit Go.Deep
set_option maxRecDepth 100000

theorem cells33 : Try.prog.cellsOf 22 = 1 := by kernel_rfl
theorem bytes_of {H : Type} {enc : TypeId × Value → H} {W : World} {fuel : Nat} {cs : List Value} {y : DataW H × List MemPlace}
    (hf : DataW.trod enc Try.prog W 0 (fun _ => true) true fuel 22 cs = some y) :
    ∃ a0 len cap Z, cs = [.slice a0 len cap] ∧ Lies W a0 len cap Z ∧ (∀ x ∈ Z, 0 ≤ x ∧ x ≤ 255) ∧ ((∀ n ∈ y.1.weights Try.prog 22, n ≤ reachBytes) → len ≤ reachBytes) := by
  rcases open_ints Try.underlying22 Try.underlying5 cells5 hf with ⟨hcs, hx⟩ | ⟨a, len, cap, zs, hcs, _, hl, hm, hz, hx, hcell, hwz⟩
  · exact ⟨_, _, _, [], hcs, Lies.nil W, (fun n hn => by cases hn), fun _ => Nat.zero_le _⟩
  · simp only [if_true] at hz
    refine ⟨_, _, _, zs.take len, hcs, ⟨(by simp; omega), hl, (fun h => by cases h), fun ad had t u hu => ?_⟩, fun n hn => bounds_u8 (hwz n (List.mem_of_mem_take hn)), fun hall => ?_⟩
    · obtain rfl := Option.some.inj had
      have ht : t < len := by
        have := (List.getElem?_eq_some_iff.1 hu).1
        simp at this; omega
      rw [hcell t (by omega)]
      rw [List.map_take, List.getElem?_take, if_pos ht, List.getElem?_map, Option.map_eq_some_iff] at hu
      obtain ⟨x, hx, rfl⟩ := hu
      simp [List.getD, hx]
    · have h1 := hall (((lits (H := H) .u8 (zs.take len)).length + (lits (H := H) .u8 (zs.drop len)).length) * Try.prog.bytesOf 5) (by rw [hx]; simp [DataW.weights, Try.underlying22])
      rw [bytes5] at h1
      simp only [lits, List.length_map, List.length_take] at h1
      omega
theorem weights_all_mem {H : Type} {P : Program} {e : TypeId} {n : Nat} : ∀ {l : List (DataW H)} {d : DataW H}, d ∈ l → n ∈ d.weights P e → n ∈ DataW.weightsAll P e l
  | x :: r, d, h, hn => by
    simp only [DataW.weightsAll]
    rcases List.mem_cons.1 h with rfl | h
    · exact List.mem_append_left _ hn
    · exact List.mem_append_right _ (weights_all_mem h hn)
/-- One that came in. -/
structure Bz where
  da : Option Addr
  dn : Nat
  dc : Nat
  Z : List Int
def Bz.cells (o : Bz) : List Value := [.slice o.da o.dn o.dc]
structure Bz.In (W : World) (o : Bz) : Prop where
  li : Lies W o.da o.dn o.dc o.Z
  le : o.dn ≤ 140737488351232
theorem Bz.In.below {W W' : World} {o : Bz} (h : Bz.In W o) (b : Below W.heap.size W W') : Bz.In W' o := { h with li := h.li.below b (Nat.le_refl _) }
/-- The slice reads as these. -/
structure Bz.Lie (W : World) (ao : Option Addr) (n : Nat) (os : List Bz) : Prop where
  hlen : os.length = n
  hat : ∀ (j : Nat) (o : Bz), os[j]? = some o → o.In W ∧ ∃ g a, ao = some ⟨g, a, none⟩ ∧ ∀ (t : Nat) (v : Value), o.cells[t]? = some v → W.cell? ⟨g, a + (j * 1 + t), none⟩ = some v
theorem Bz.Lie.below {W W' : World} {ao : Option Addr} {n : Nat} {os : List Bz} (h : Bz.Lie W ao n os) (b : Below W.heap.size W W') : Bz.Lie W' ao n os :=
  ⟨h.hlen, fun j o hj => by
    obtain ⟨h1, g, a, e, h2⟩ := h.hat j o hj
    exact ⟨h1.below b, g, a, e, fun t v hv => cell_later b (h2 t v hv)⟩⟩
theorem cellsBz : Try.prog.cellsOf 22 = 1 := by kernel_rfl
theorem bytesBz : 1 ≤ Try.prog.bytesOf 22 := of_decide_eq_true (by kernel_rfl)
theorem Bz.of {H : Type} {enc : TypeId × Value → H} {W : World} {fuel : Nat} {cs : List Value} {y : DataW H × List MemPlace} {a : Addr}
    (hc : W.cells? 0 a 1 = some cs) (hf : DataW.trod enc Try.prog W 0 (fun _ => true) true fuel 22 cs = some y) :
    ∃ o : Bz, (∀ j v, o.cells[j]? = some v → W.cell? (a.add j) = some v) ∧ ((∀ n ∈ y.1.weights Try.prog 22, n ≤ reachBytes) → o.In W) := by
  obtain ⟨_, hlen, hcell⟩ := World.cells?_some hc
  obtain ⟨da, dn, dc, Z, e3, hL, hs, hb⟩ := bytes_of hf
  subst e3
  refine ⟨⟨da, dn, dc, Z⟩, fun j v hv => ?_, fun hall => ⟨hL, Nat.le_trans (hb hall) (by decide)⟩⟩
  have hj : j < 1 := (List.getElem?_eq_some_iff.1 hv).1
  rw [hcell j hj]
  exact hv
theorem Bz.view {H : Type} {enc : TypeId × Value → H} {W : World} {fuel : Nat} {a0 : Option Addr} {len cap : Nat} {y : DataW H × List MemPlace}
    (hf : DataW.trod enc Try.prog W 0 (fun _ => true) true fuel 37 (Value.slice a0 len cap).cells.toList = some y) (hall : ∀ n ∈ y.1.weights Try.prog 37, n ≤ reachBytes) :
    len ≤ 140737488355328 ∧ len ≤ cap ∧ ∃ es : List Bz, Bz.Lie W a0 len es := by
  rcases open_slice Try.underlying37 hf with ⟨hcs, hx⟩ | ⟨a, len', cap', m, n, D, Pl, hcs, _, hl, hm, hmm, hx, hel⟩
  · simp [Value.cells] at hcs
    obtain ⟨rfl, rfl, rfl⟩ := hcs
    exact ⟨by omega, Nat.le_refl _, [], ⟨rfl, fun j s h => by simp at h⟩⟩
  · simp [Value.cells] at hcs
    obtain ⟨rfl, rfl, rfl⟩ := hcs
    simp only [if_true] at hmm
    subst hmm
    rw [cellsBz] at hel
    have hw : ∀ i, i < len → ∀ k ∈ (D i).weights Try.prog 22, k ≤ reachBytes := fun i hi k hk => hall k (by
      rw [hx]
      simp only [DataW.weights, Try.underlying37]
      refine List.mem_cons_of_mem _ (List.mem_append_left _ ?_)
      exact weights_all_mem (List.mem_map.2 ⟨i, List.mem_range.2 hi, rfl⟩) hk)
    have hinh : Inhabited Bz := ⟨⟨none, 0, 0, []⟩⟩
    obtain ⟨X, hX⟩ := choose_lt (α := Bz) (p := fun i x => (∀ j v, x.cells[j]? = some v → W.cell? ((a.add (i * 1)).add j) = some v) ∧ x.In W) (n := len) (fun i hi => by
      obtain ⟨cs', h1, h2⟩ := hel i (by omega)
      obtain ⟨d, hd, hI⟩ := Bz.of h1 h2
      exact ⟨d, hd, hI (hw i hi)⟩)
    refine ⟨?_, hl, (List.range len).map X, ⟨by simp, fun j s hj => ?_⟩⟩
    · have h1 := hall ((((List.range len).map D).length + ((List.range (m - len)).map fun j => D (len + j)).length) * Try.prog.bytesOf 22) (by rw [hx]; simp [DataW.weights, Try.underlying37])
      have h2 : len * 1 ≤ (((List.range len).map D).length + ((List.range (m - len)).map fun j => D (len + j)).length) * Try.prog.bytesOf 22 := Nat.mul_le_mul (by simp) bytesBz
      exact Nat.le_trans (by omega) (Nat.le_trans h1 (by decide))
    · have hjl : j < len := by
        have := (List.getElem?_eq_some_iff.1 hj).1
        simpa using this
      obtain ⟨h0, hI⟩ := hX j hjl
      simp [hjl] at hj
      subst hj
      have q00 := (hX 0 (by omega)).1 0 _ rfl
      obtain ⟨b', o, spot⟩ := a
      have hspot : spot = none := by simpa [Addr.add] using World.cell?_spot q00
      subst hspot
      refine ⟨hI, b', o, rfl, fun t v hv => ?_⟩
      have := h0 t v hv
      rw [Addr.add_lit, Addr.add_lit] at this
      rw [← Nat.add_assoc]
      exact this
/-- One that came in. -/
structure Ft where
  k : Int
  K : Int
  a : Int
  v : Int
  da : Option Addr
  dn : Nat
  dc : Nat
  Z : List Int
def Ft.cells (o : Ft) : List Value := [.int .i64 o.k, .int .i64 o.K, .int .i64 o.a, .int .i64 o.v, .slice o.da o.dn o.dc]
structure Ft.In (W : World) (o : Ft) : Prop where
  li : Lies W o.da o.dn o.dc o.Z
  le : o.dn ≤ 140737488351232
  kk : -9223372036854775808 ≤ o.k ∧ o.k ≤ 9223372036854775807
  kK : -9223372036854775808 ≤ o.K ∧ o.K ≤ 9223372036854775807
  ka : -9223372036854775808 ≤ o.a ∧ o.a ≤ 9223372036854775807
  kv : -9223372036854775808 ≤ o.v ∧ o.v ≤ 9223372036854775807
theorem Ft.In.below {W W' : World} {o : Ft} (h : Ft.In W o) (b : Below W.heap.size W W') : Ft.In W' o := { h with li := h.li.below b (Nat.le_refl _) }
/-- The slice reads as these. -/
structure Ft.Lie (W : World) (ao : Option Addr) (n : Nat) (os : List Ft) : Prop where
  hlen : os.length = n
  hat : ∀ (j : Nat) (o : Ft), os[j]? = some o → o.In W ∧ ∃ g a, ao = some ⟨g, a, none⟩ ∧ ∀ (t : Nat) (v : Value), o.cells[t]? = some v → W.cell? ⟨g, a + (j * 5 + t), none⟩ = some v
theorem Ft.Lie.below {W W' : World} {ao : Option Addr} {n : Nat} {os : List Ft} (h : Ft.Lie W ao n os) (b : Below W.heap.size W W') : Ft.Lie W' ao n os :=
  ⟨h.hlen, fun j o hj => by
    obtain ⟨h1, g, a, e, h2⟩ := h.hat j o hj
    exact ⟨h1.below b, g, a, e, fun t v hv => cell_later b (h2 t v hv)⟩⟩
theorem cellsFt : Try.prog.cellsOf 47 = 5 := by kernel_rfl
theorem bytesFt : 1 ≤ Try.prog.bytesOf 47 := of_decide_eq_true (by kernel_rfl)
theorem Ft.of {H : Type} {enc : TypeId × Value → H} {W : World} {fuel : Nat} {cs : List Value} {y : DataW H × List MemPlace} {a : Addr}
    (hc : W.cells? 0 a 5 = some cs) (hf : DataW.trod enc Try.prog W 0 (fun _ => true) true fuel 47 cs = some y) :
    ∃ o : Ft, (∀ j v, o.cells[j]? = some v → W.cell? (a.add j) = some v) ∧ ((∀ n ∈ y.1.weights Try.prog 47, n ≤ reachBytes) → o.In W) := by
  obtain ⟨xs, n, _, hy, hl, hn, hfs⟩ := DataW.trod_struct Try.underlying47 hf
  rw [cellsFt] at hl
  obtain ⟨_, hlen, hcell⟩ := World.cells?_some hc
  match cs, hl with
  | [c0, c1, c2, c3, c4], _ =>
    match xs, hn with
    | [y0, y1, y2, y3, y4], _ =>
      have f0 : DataW.trod enc Try.prog W 0 (fun _ => true) true n 3 (([c0, c1, c2, c3, c4].drop 0).take (Try.prog.cellsOf 3)) = some y0 := hfs 0 _ rfl
      have f1 : DataW.trod enc Try.prog W 0 (fun _ => true) true n 3 (([c0, c1, c2, c3, c4].drop 1).take (Try.prog.cellsOf 3)) = some y1 := hfs 1 _ rfl
      have f2 : DataW.trod enc Try.prog W 0 (fun _ => true) true n 3 (([c0, c1, c2, c3, c4].drop 2).take (Try.prog.cellsOf 3)) = some y2 := hfs 2 _ rfl
      have f3 : DataW.trod enc Try.prog W 0 (fun _ => true) true n 3 (([c0, c1, c2, c3, c4].drop 3).take (Try.prog.cellsOf 3)) = some y3 := hfs 3 _ rfl
      have f4 : DataW.trod enc Try.prog W 0 (fun _ => true) true n 22 (([c0, c1, c2, c3, c4].drop 4).take (Try.prog.cellsOf 22)) = some y4 := hfs 4 _ rfl
      rw [cells3] at f0 f1 f2 f3
      rw [cells33] at f4
      obtain ⟨K0, e0, _, g0⟩ := DataW.trod_int Try.underlying3 f0
      obtain ⟨K1, e1, _, g1⟩ := DataW.trod_int Try.underlying3 f1
      obtain ⟨K2, e2, _, g2⟩ := DataW.trod_int Try.underlying3 f2
      obtain ⟨K3, e3, _, g3⟩ := DataW.trod_int Try.underlying3 f3
      obtain ⟨da, dn, dc, Z, e4, hL, hs, hb⟩ := bytes_of f4
      simp at e0 e1 e2 e3 e4
      subst e0 e1 e2 e3 e4
      refine ⟨⟨K0, K1, K2, K3, da, dn, dc, Z⟩, fun j v hv => ?_, fun hall => ⟨hL, ?_, bounds_i64 g0, bounds_i64 g1, bounds_i64 g2, bounds_i64 g3⟩⟩
      · have hj : j < 5 := (List.getElem?_eq_some_iff.1 hv).1
        rw [hcell j hj]
        exact hv
      · have := hb (fun k hk => hall k (by
          rw [hy]
          simp only [DataW.weights, Try.underlying47, List.map_cons, List.map_nil, DataW.weightsEach]
          simp [hk]))
        exact Nat.le_trans this (by decide)
theorem Ft.view {H : Type} {enc : TypeId × Value → H} {W : World} {fuel : Nat} {a0 : Option Addr} {len cap : Nat} {y : DataW H × List MemPlace}
    (hf : DataW.trod enc Try.prog W 0 (fun _ => true) true fuel 45 (Value.slice a0 len cap).cells.toList = some y) (hall : ∀ n ∈ y.1.weights Try.prog 45, n ≤ reachBytes) :
    len ≤ 140737488355328 ∧ len ≤ cap ∧ ∃ es : List Ft, Ft.Lie W a0 len es := by
  rcases open_slice Try.underlying45 hf with ⟨hcs, hx⟩ | ⟨a, len', cap', m, n, D, Pl, hcs, _, hl, hm, hmm, hx, hel⟩
  · simp [Value.cells] at hcs
    obtain ⟨rfl, rfl, rfl⟩ := hcs
    exact ⟨by omega, Nat.le_refl _, [], ⟨rfl, fun j s h => by simp at h⟩⟩
  · simp [Value.cells] at hcs
    obtain ⟨rfl, rfl, rfl⟩ := hcs
    simp only [if_true] at hmm
    subst hmm
    rw [cellsFt] at hel
    have hw : ∀ i, i < len → ∀ k ∈ (D i).weights Try.prog 47, k ≤ reachBytes := fun i hi k hk => hall k (by
      rw [hx]
      simp only [DataW.weights, Try.underlying45]
      refine List.mem_cons_of_mem _ (List.mem_append_left _ ?_)
      exact weights_all_mem (List.mem_map.2 ⟨i, List.mem_range.2 hi, rfl⟩) hk)
    have hinh : Inhabited Ft := ⟨⟨0, 0, 0, 0, none, 0, 0, []⟩⟩
    obtain ⟨X, hX⟩ := choose_lt (α := Ft) (p := fun i x => (∀ j v, x.cells[j]? = some v → W.cell? ((a.add (i * 5)).add j) = some v) ∧ x.In W) (n := len) (fun i hi => by
      obtain ⟨cs', h1, h2⟩ := hel i (by omega)
      obtain ⟨d, hd, hI⟩ := Ft.of h1 h2
      exact ⟨d, hd, hI (hw i hi)⟩)
    refine ⟨?_, hl, (List.range len).map X, ⟨by simp, fun j s hj => ?_⟩⟩
    · have h1 := hall ((((List.range len).map D).length + ((List.range (m - len)).map fun j => D (len + j)).length) * Try.prog.bytesOf 47) (by rw [hx]; simp [DataW.weights, Try.underlying45])
      have h2 : len * 1 ≤ (((List.range len).map D).length + ((List.range (m - len)).map fun j => D (len + j)).length) * Try.prog.bytesOf 47 := Nat.mul_le_mul (by simp) bytesFt
      exact Nat.le_trans (by omega) (Nat.le_trans h1 (by decide))
    · have hjl : j < len := by
        have := (List.getElem?_eq_some_iff.1 hj).1
        simpa using this
      obtain ⟨h0, hI⟩ := hX j hjl
      simp [hjl] at hj
      subst hj
      have q00 := (hX 0 (by omega)).1 0 _ rfl
      obtain ⟨b', o, spot⟩ := a
      have hspot : spot = none := by simpa [Addr.add] using World.cell?_spot q00
      subst hspot
      refine ⟨hI, b', o, rfl, fun t v hv => ?_⟩
      have := h0 t v hv
      rw [Addr.add_lit, Addr.add_lit] at this
      rw [← Nat.add_assoc]
      exact this
/-- One that came in. -/
structure Op where
  k : Int
  w : Int
  no : Int
  a : Int
  v : Int
  to : Int
  da : Option Addr
  dn : Nat
  dc : Nat
  Z : List Int
  m : Int
def Op.cells (o : Op) : List Value := [.int .i64 o.k, .int .i64 o.w, .int .i64 o.no, .int .i64 o.a, .int .i64 o.v, .int .i64 o.to, .slice o.da o.dn o.dc, .int .i64 o.m]
structure Op.In (W : World) (o : Op) : Prop where
  li : Lies W o.da o.dn o.dc o.Z
  le : o.dn ≤ 140737488351232
  kk : -9223372036854775808 ≤ o.k ∧ o.k ≤ 9223372036854775807
  kw : -9223372036854775808 ≤ o.w ∧ o.w ≤ 9223372036854775807
  kno : -9223372036854775808 ≤ o.no ∧ o.no ≤ 9223372036854775807
  ka : -9223372036854775808 ≤ o.a ∧ o.a ≤ 9223372036854775807
  kv : -9223372036854775808 ≤ o.v ∧ o.v ≤ 9223372036854775807
  kto : -9223372036854775808 ≤ o.to ∧ o.to ≤ 9223372036854775807
  km : -9223372036854775808 ≤ o.m ∧ o.m ≤ 9223372036854775807
theorem Op.In.below {W W' : World} {o : Op} (h : Op.In W o) (b : Below W.heap.size W W') : Op.In W' o := { h with li := h.li.below b (Nat.le_refl _) }
/-- The slice reads as these. -/
structure Op.Lie (W : World) (ao : Option Addr) (n : Nat) (os : List Op) : Prop where
  hlen : os.length = n
  hat : ∀ (j : Nat) (o : Op), os[j]? = some o → o.In W ∧ ∃ g a, ao = some ⟨g, a, none⟩ ∧ ∀ (t : Nat) (v : Value), o.cells[t]? = some v → W.cell? ⟨g, a + (j * 8 + t), none⟩ = some v
theorem Op.Lie.below {W W' : World} {ao : Option Addr} {n : Nat} {os : List Op} (h : Op.Lie W ao n os) (b : Below W.heap.size W W') : Op.Lie W' ao n os :=
  ⟨h.hlen, fun j o hj => by
    obtain ⟨h1, g, a, e, h2⟩ := h.hat j o hj
    exact ⟨h1.below b, g, a, e, fun t v hv => cell_later b (h2 t v hv)⟩⟩
theorem cellsOp : Try.prog.cellsOf 59 = 8 := by kernel_rfl
theorem bytesOp : 1 ≤ Try.prog.bytesOf 59 := of_decide_eq_true (by kernel_rfl)
theorem Op.of {H : Type} {enc : TypeId × Value → H} {W : World} {fuel : Nat} {cs : List Value} {y : DataW H × List MemPlace} {a : Addr}
    (hc : W.cells? 0 a 8 = some cs) (hf : DataW.trod enc Try.prog W 0 (fun _ => true) true fuel 59 cs = some y) :
    ∃ o : Op, (∀ j v, o.cells[j]? = some v → W.cell? (a.add j) = some v) ∧ ((∀ n ∈ y.1.weights Try.prog 59, n ≤ reachBytes) → o.In W) := by
  obtain ⟨xs, n, _, hy, hl, hn, hfs⟩ := DataW.trod_struct Try.underlying59 hf
  rw [cellsOp] at hl
  obtain ⟨_, hlen, hcell⟩ := World.cells?_some hc
  match cs, hl with
  | [c0, c1, c2, c3, c4, c5, c6, c7], _ =>
    match xs, hn with
    | [y0, y1, y2, y3, y4, y5, y6, y7], _ =>
      have f0 : DataW.trod enc Try.prog W 0 (fun _ => true) true n 3 (([c0, c1, c2, c3, c4, c5, c6, c7].drop 0).take (Try.prog.cellsOf 3)) = some y0 := hfs 0 _ rfl
      have f1 : DataW.trod enc Try.prog W 0 (fun _ => true) true n 3 (([c0, c1, c2, c3, c4, c5, c6, c7].drop 1).take (Try.prog.cellsOf 3)) = some y1 := hfs 1 _ rfl
      have f2 : DataW.trod enc Try.prog W 0 (fun _ => true) true n 3 (([c0, c1, c2, c3, c4, c5, c6, c7].drop 2).take (Try.prog.cellsOf 3)) = some y2 := hfs 2 _ rfl
      have f3 : DataW.trod enc Try.prog W 0 (fun _ => true) true n 3 (([c0, c1, c2, c3, c4, c5, c6, c7].drop 3).take (Try.prog.cellsOf 3)) = some y3 := hfs 3 _ rfl
      have f4 : DataW.trod enc Try.prog W 0 (fun _ => true) true n 3 (([c0, c1, c2, c3, c4, c5, c6, c7].drop 4).take (Try.prog.cellsOf 3)) = some y4 := hfs 4 _ rfl
      have f5 : DataW.trod enc Try.prog W 0 (fun _ => true) true n 3 (([c0, c1, c2, c3, c4, c5, c6, c7].drop 5).take (Try.prog.cellsOf 3)) = some y5 := hfs 5 _ rfl
      have f6 : DataW.trod enc Try.prog W 0 (fun _ => true) true n 22 (([c0, c1, c2, c3, c4, c5, c6, c7].drop 6).take (Try.prog.cellsOf 22)) = some y6 := hfs 6 _ rfl
      have f7 : DataW.trod enc Try.prog W 0 (fun _ => true) true n 3 (([c0, c1, c2, c3, c4, c5, c6, c7].drop 7).take (Try.prog.cellsOf 3)) = some y7 := hfs 7 _ rfl
      rw [cells3] at f0 f1 f2 f3 f4 f5 f7
      rw [cells33] at f6
      obtain ⟨K0, e0, _, g0⟩ := DataW.trod_int Try.underlying3 f0
      obtain ⟨K1, e1, _, g1⟩ := DataW.trod_int Try.underlying3 f1
      obtain ⟨K2, e2, _, g2⟩ := DataW.trod_int Try.underlying3 f2
      obtain ⟨K3, e3, _, g3⟩ := DataW.trod_int Try.underlying3 f3
      obtain ⟨K4, e4, _, g4⟩ := DataW.trod_int Try.underlying3 f4
      obtain ⟨K5, e5, _, g5⟩ := DataW.trod_int Try.underlying3 f5
      obtain ⟨da, dn, dc, Z, e6, hL, hs, hb⟩ := bytes_of f6
      obtain ⟨K7, e7, _, g7⟩ := DataW.trod_int Try.underlying3 f7
      simp at e0 e1 e2 e3 e4 e5 e6 e7
      subst e0 e1 e2 e3 e4 e5 e6 e7
      refine ⟨⟨K0, K1, K2, K3, K4, K5, da, dn, dc, Z, K7⟩, fun j v hv => ?_, fun hall => ⟨hL, ?_, bounds_i64 g0, bounds_i64 g1, bounds_i64 g2, bounds_i64 g3, bounds_i64 g4, bounds_i64 g5, bounds_i64 g7⟩⟩
      · have hj : j < 8 := (List.getElem?_eq_some_iff.1 hv).1
        rw [hcell j hj]
        exact hv
      · have := hb (fun k hk => hall k (by
          rw [hy]
          simp only [DataW.weights, Try.underlying59, List.map_cons, List.map_nil, DataW.weightsEach]
          simp [hk]))
        exact Nat.le_trans this (by decide)
theorem Op.view {H : Type} {enc : TypeId × Value → H} {W : World} {fuel : Nat} {a0 : Option Addr} {len cap : Nat} {y : DataW H × List MemPlace}
    (hf : DataW.trod enc Try.prog W 0 (fun _ => true) true fuel 51 (Value.slice a0 len cap).cells.toList = some y) (hall : ∀ n ∈ y.1.weights Try.prog 51, n ≤ reachBytes) :
    len ≤ 140737488355328 ∧ len ≤ cap ∧ ∃ es : List Op, Op.Lie W a0 len es := by
  rcases open_slice Try.underlying51 hf with ⟨hcs, hx⟩ | ⟨a, len', cap', m, n, D, Pl, hcs, _, hl, hm, hmm, hx, hel⟩
  · simp [Value.cells] at hcs
    obtain ⟨rfl, rfl, rfl⟩ := hcs
    exact ⟨by omega, Nat.le_refl _, [], ⟨rfl, fun j s h => by simp at h⟩⟩
  · simp [Value.cells] at hcs
    obtain ⟨rfl, rfl, rfl⟩ := hcs
    simp only [if_true] at hmm
    subst hmm
    rw [cellsOp] at hel
    have hw : ∀ i, i < len → ∀ k ∈ (D i).weights Try.prog 59, k ≤ reachBytes := fun i hi k hk => hall k (by
      rw [hx]
      simp only [DataW.weights, Try.underlying51]
      refine List.mem_cons_of_mem _ (List.mem_append_left _ ?_)
      exact weights_all_mem (List.mem_map.2 ⟨i, List.mem_range.2 hi, rfl⟩) hk)
    have hinh : Inhabited Op := ⟨⟨0, 0, 0, 0, 0, 0, none, 0, 0, [], 0⟩⟩
    obtain ⟨X, hX⟩ := choose_lt (α := Op) (p := fun i x => (∀ j v, x.cells[j]? = some v → W.cell? ((a.add (i * 8)).add j) = some v) ∧ x.In W) (n := len) (fun i hi => by
      obtain ⟨cs', h1, h2⟩ := hel i (by omega)
      obtain ⟨d, hd, hI⟩ := Op.of h1 h2
      exact ⟨d, hd, hI (hw i hi)⟩)
    refine ⟨?_, hl, (List.range len).map X, ⟨by simp, fun j s hj => ?_⟩⟩
    · have h1 := hall ((((List.range len).map D).length + ((List.range (m - len)).map fun j => D (len + j)).length) * Try.prog.bytesOf 59) (by rw [hx]; simp [DataW.weights, Try.underlying51])
      have h2 : len * 1 ≤ (((List.range len).map D).length + ((List.range (m - len)).map fun j => D (len + j)).length) * Try.prog.bytesOf 59 := Nat.mul_le_mul (by simp) bytesOp
      exact Nat.le_trans (by omega) (Nat.le_trans h1 (by decide))
    · have hjl : j < len := by
        have := (List.getElem?_eq_some_iff.1 hj).1
        simpa using this
      obtain ⟨h0, hI⟩ := hX j hjl
      simp [hjl] at hj
      subst hj
      have q00 := (hX 0 (by omega)).1 0 _ rfl
      obtain ⟨b', o, spot⟩ := a
      have hspot : spot = none := by simpa [Addr.add] using World.cell?_spot q00
      subst hspot
      refine ⟨hI, b', o, rfl, fun t v hv => ?_⟩
      have := h0 t v hv
      rw [Addr.add_lit, Addr.add_lit] at this
      rw [← Nat.add_assoc]
      exact this
end Go.Proofs.Ytpbanjgjljdepaa
