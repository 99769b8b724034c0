/- Lists of bytes, of bools and of steps that came in, opened once. -/
import Derived.Test.YtkffnbcfmaoldabRows
import Derived.Test.YtkffnbcfmaoldabDJ
import Derived.ProofKit
import Derived.OpenShut
import Derived.SizedLaws
import Derived.Deep.Slices
namespace Go.Proofs.Ytkffnbcfmaoldab
open Go.ChangeShapes Go.WideShapes Go.ChangeAt Go.RowKit Go.Deep
set_option maxRecDepth 100000

theorem own : ownKnob Try.prog.godebug = none := by kernel_rfl
theorem laidOut : laidOutB Try.prog = true := by kernel_rfl
theorem cells5 : Try.prog.cellsOf 5 = 1 := by kernel_rfl
theorem cells3 : Try.prog.cellsOf 3 = 1 := by kernel_rfl
theorem cells4 : Try.prog.cellsOf 4 = 1 := by kernel_rfl
theorem bytes5 : Try.prog.bytesOf 5 = 1 := by kernel_rfl
theorem bytes4 : Try.prog.bytesOf 4 = 1 := by kernel_rfl

/-- A slice of bytes that came in, nil or not. -/
theorem view_bytes {H : Type} {enc : TypeId × Value → H} {W : World} {fuel : Nat} {a0 : Option Addr} {len cap : Nat} {d : DataW H} {p : List MemPlace}
    (hf : DataW.trod enc Try.prog W 0 (fun _ => true) true fuel 29 (Value.slice a0 len cap).cells.toList = some (d, p)) :
    ∃ Z : List Int, Lies W a0 len cap Z ∧ (∀ x ∈ Z, 0 ≤ x ∧ x ≤ 255) ∧ (len = 0 ∨ ∃ sp, d = .slice (lits .u8 Z) sp) := by
  rcases open_ints Try.underlying29 Try.underlying5 cells5 hf with ⟨hcs, hx⟩ | ⟨a, len', cap', zs, hcs, _, hl, hm, hz, hx, hcell, hwz⟩
  · simp [Value.cells] at hcs
    obtain ⟨rfl, rfl, rfl⟩ := hcs
    exact ⟨[], Lies.nil W, (fun n hn => by cases hn), Or.inl rfl⟩
  · simp [Value.cells] at hcs
    obtain ⟨rfl, rfl, rfl⟩ := hcs
    simp only [Prod.mk.injEq] at hx
    obtain ⟨rfl, rfl⟩ := hx
    simp only [if_true] at hz
    refine ⟨zs.take len, ⟨(by simp; omega), hl, (fun h => by cases h), fun ad had t u hu => ?_⟩, fun n hn => bounds_u8 (hwz n (List.mem_of_mem_take hn)), Or.inr ⟨_, rfl⟩⟩
    obtain rfl := Option.some.inj had
    have ht : t < len := by
      have := (List.getElem?_eq_some_iff.1 hu).1
      simp at this; omega
    rw [hcell t (by omega)]
    rw [List.map_take, List.getElem?_take, if_pos ht, List.getElem?_map, Option.map_eq_some_iff] at hu
    obtain ⟨x, hx, rfl⟩ := hu
    simp [List.getD, hx]
/-- The place j of a sized row, a list of bytes, is of at most 2 ^ 47 - 4096. -/
theorem reach_bytes {H : Type} {ts : List TypeId} {ds : List (DataW H)} {len : Nat} {Z : List Int} {d : DataW H} {j : Nat} (hsz : (DataW.weightsEach Try.prog ts ds).all (· ≤ reachBytes) = true) (ht : ts[j]? = some 29) (hd : ds[j]? = some d) (hZ : Z.length = len) (h : len = 0 ∨ ∃ sp, d = .slice (lits .u8 Z) sp) : len ≤ 140737488351232 := by
  rcases h with h | ⟨sa, h⟩
  · omega
  · have := sized_slice hsz (j := j) (t := 29) (e := 5) ht (by rw [hd, h]) Try.underlying29
    rw [bytes5] at this
    simp only [lits, List.length_map, hZ, reachBytes] at this
    omega
theorem each_reach {H : Type} {ts : List TypeId} {ds : List (DataW H)} (hsz : (DataW.weightsEach Try.prog ts ds).all (· ≤ reachBytes) = true) {j : Nat} {t : TypeId} {d : DataW H} (ht : ts[j]? = some t) (hd : ds[j]? = some d) : ∀ n ∈ d.weights Try.prog t, n ≤ reachBytes := fun n hn => by
  simpa using List.all_eq_true.1 hsz n (DataW.weights_mem_each ht hd n hn)

/-- A slice of bools that came in. -/
theorem view_bools {H : Type} {enc : TypeId × Value → H} {W : World} {fuel : Nat} {a0 : Option Addr} {len cap : Nat} {y : DataW H × List MemPlace}
    (hf : DataW.trod enc Try.prog W 0 (fun _ => true) true fuel 68 (Value.slice a0 len cap).cells.toList = some y) :
    ∃ ks : List Bool, KLies W a0 len cap ks ∧ (len = 0 ∨ ∃ el sp, y.1 = .slice el sp ∧ el.length = len) := by
  rcases open_slice Try.underlying68 hf with ⟨hcs, hx⟩ | ⟨a, len', cap', m, n, D, Pl, hcs, _, hl, hm, hmm, hx, hel⟩
  · simp [Value.cells] at hcs
    obtain ⟨rfl, rfl, rfl⟩ := hcs
    exact ⟨[], KLies.nil W, .inl rfl⟩
  · simp [Value.cells] at hcs
    obtain ⟨rfl, rfl, rfl⟩ := hcs
    simp only [if_true] at hmm
    rw [cells4] at hel
    obtain ⟨X, hX⟩ := choose_lt (α := Bool) (p := fun i x => W.cell? (a.add (i * 1)) = some (.bool x)) (n := len) (fun i hi => by
      obtain ⟨cs', h1, h2⟩ := hel i (by omega)
      obtain ⟨x, e, _⟩ := DataW.trod_bool Try.underlying4 h2
      obtain ⟨_, hlen, hcell⟩ := World.cells?_some h1
      have := hcell 0 (by omega)
      subst e
      refine ⟨x, ?_⟩
      have e0 : (a.add (i * 1)).add 0 = a.add (i * 1) := by simp [Addr.add]
      rw [e0] at this
      simpa using this)
    refine ⟨(List.range len).map X, ⟨by simp, hl, fun j b hj => ?_⟩, .inr ⟨_, _, by rw [hx], by simp⟩⟩
    have hjl : j < len := by
      have := (List.getElem?_eq_some_iff.1 hj).1
      simpa using this
    have h0 := hX j hjl
    have h00 := hX 0 (by omega)
    obtain ⟨b', o, spot⟩ := a
    have hspot : spot = none := by simpa [Addr.add] using World.cell?_spot h00
    subst hspot
    refine ⟨b', o, rfl, ?_⟩
    rw [Addr.add_lit, Nat.mul_one] at h0
    rw [h0]
    simp [hjl] at hj
    rw [hj]
theorem bools_reach {H : Type} {k : Nat} {y : DataW H} (hZ : k = 0 ∨ ∃ el sp, y = .slice el sp ∧ el.length = k) (hall : ∀ n ∈ y.weights Try.prog 68, n ≤ reachBytes) : k ≤ reachBytes := by
  rcases hZ with h | ⟨el, sp, h, hel⟩
  · omega
  · have h1 := hall ((el.length + sp.length) * Try.prog.bytesOf 4) (by rw [h]; simp [DataW.weights, Try.underlying68])
    rw [bytes4, hel] at h1
    omega

/-- A step: the block, the byte, whether it is a flush. -/
structure Stp where
  b : Int
  x : Int
  fl : Bool
/-- The slice reads as these steps. -/
structure WLies (w : World) (ao : Option Addr) (n c : Nat) (ws : List Stp) : Prop where
  hlen : ws.length = n
  hle : n ≤ c
  hcells : ∀ (j : Nat) s, ws[j]? = some s → (0 ≤ s.x ∧ s.x ≤ 255) ∧ ∃ g o, ao = some ⟨g, o, none⟩ ∧ w.cell? ⟨g, o + j * 3, none⟩ = some (.int .i64 s.b) ∧ w.cell? ⟨g, o + j * 3 + 1, none⟩ = some (.int .u8 s.x) ∧ w.cell? ⟨g, o + j * 3 + 2, none⟩ = some (.bool s.fl)
theorem WLies.below {w w' : World} {ao : Option Addr} {n c B : Nat} {ws : List Stp} (h : WLies w ao n c ws) (hb : Below B w w') (hB : w.heap.size ≤ B) : WLies w' ao n c ws :=
  ⟨h.hlen, h.hle, fun j s hj => by
    obtain ⟨hx, g, o, e, h1, h2, h3⟩ := h.hcells j s hj
    have l1 := World.block_lt_of_cell? w _ h1
    have hlt : g < B := Nat.lt_of_lt_of_le l1 hB
    exact ⟨hx, g, o, e, (hb.cell hlt).trans h1, (hb.cell hlt).trans h2, (hb.cell hlt).trans h3⟩⟩
theorem KLies.below {w w' : World} {ao : Option Addr} {n c B : Nat} {ks : List Bool} (h : KLies w ao n c ks) (hb : Below B w w') (hB : w.heap.size ≤ B) : KLies w' ao n c ks :=
  ⟨h.hlen, h.hle, fun j s hj => by
    obtain ⟨g, o, e, h1⟩ := h.hcells j s hj
    have l1 := World.block_lt_of_cell? w _ h1
    exact ⟨g, o, e, (hb.cell (Nat.lt_of_lt_of_le l1 hB)).trans h1⟩⟩

theorem cellsWr : Try.prog.cellsOf 34 = 3 := by kernel_rfl
theorem bytesWr : Try.prog.bytesOf 34 = 16 := by kernel_rfl
theorem wr_of {H : Type} {enc : TypeId × Value → H} {W : World} {fuel : Nat} {cs : List Value} {y : DataW H × List MemPlace} {a : Addr}
    (hc : W.cells? 0 a 3 = some cs) (hf : DataW.trod enc Try.prog W 0 (fun _ => true) true fuel 34 cs = some y) :
    ∃ s : Stp, (0 ≤ s.x ∧ s.x ≤ 255) ∧ ∀ j v, [Value.int .i64 s.b, .int .u8 s.x, .bool s.fl][j]? = some v → W.cell? (a.add j) = some v := by
  obtain ⟨xs, n, _, _, hl, hn, hfs⟩ := DataW.trod_struct Try.underlying34 hf
  rw [cellsWr] at hl
  obtain ⟨_, hlen, hcell⟩ := World.cells?_some hc
  match cs, hl with
  | [c0, c1, c2], _ =>
    match xs, hn with
    | [y0, y1, y2], _ =>
      have f0 : DataW.trod enc Try.prog W 0 (fun _ => true) true n 3 (([c0, c1, c2].drop 0).take (Try.prog.cellsOf 3)) = some y0 := hfs 0 _ rfl
      have f1 : DataW.trod enc Try.prog W 0 (fun _ => true) true n 5 (([c0, c1, c2].drop 1).take (Try.prog.cellsOf 5)) = some y1 := hfs 1 _ rfl
      have f2 : DataW.trod enc Try.prog W 0 (fun _ => true) true n 4 (([c0, c1, c2].drop 2).take (Try.prog.cellsOf 4)) = some y2 := hfs 2 _ rfl
      rw [cells3] at f0
      rw [cells5] at f1
      rw [cells4] at f2
      obtain ⟨B, e0, _, _⟩ := DataW.trod_int Try.underlying3 f0
      obtain ⟨X, e1, wX, _⟩ := DataW.trod_int Try.underlying5 f1
      obtain ⟨K, e2, _⟩ := DataW.trod_bool Try.underlying4 f2
      simp at e0 e1 e2
      subst e0 e1 e2
      refine ⟨⟨B, X, K⟩, ?_, fun j v hv => ?_⟩
      · first | exact bounds_u8 wX | exact bounds_u8 (by assumption)
      · have hj : j < 3 := (List.getElem?_eq_some_iff.1 hv).1
        rw [hcell j hj]
        exact hv
theorem view_wrs {H : Type} {enc : TypeId × Value → H} {W : World} {fuel : Nat} {a0 : Option Addr} {len cap : Nat} {y : DataW H × List MemPlace}
    (hf : DataW.trod enc Try.prog W 0 (fun _ => true) true fuel 22 (Value.slice a0 len cap).cells.toList = some y) :
    ∃ ws : List Stp, WLies W a0 len cap ws ∧ (len = 0 ∨ ∃ el sp, y.1 = .slice el sp ∧ el.length = len) := by
  rcases open_slice Try.underlying22 hf with ⟨hcs, hx⟩ | ⟨a, len', cap', m, n, D, Pl, hcs, _, hl, hm, hmm, hx, hel⟩
  · simp [Value.cells] at hcs
    obtain ⟨rfl, rfl, rfl⟩ := hcs
    exact ⟨[], ⟨rfl, Nat.le_refl _, fun j s h => by simp at h⟩, .inl rfl⟩
  · simp [Value.cells] at hcs
    obtain ⟨rfl, rfl, rfl⟩ := hcs
    simp only [if_true] at hmm
    rw [cellsWr] at hel
    have hinh : Inhabited Stp := ⟨⟨0, 0, false⟩⟩
    obtain ⟨X, hX⟩ := choose_lt (α := Stp) (p := fun i x => (0 ≤ x.x ∧ x.x ≤ 255) ∧ ∀ j v, [Value.int .i64 x.b, .int .u8 x.x, .bool x.fl][j]? = some v → W.cell? ((a.add (i * 3)).add j) = some v) (n := len) (fun i hi => by
      obtain ⟨cs', h1, h2⟩ := hel i (by omega)
      exact wr_of h1 h2)
    refine ⟨(List.range len).map X, ⟨by simp, hl, fun j s hj => ?_⟩, .inr ⟨_, _, by rw [hx], by simp⟩⟩
    have hjl : j < len := by
      have := (List.getElem?_eq_some_iff.1 hj).1
      simpa using this
    obtain ⟨hx0, h0⟩ := hX j hjl
    simp [hjl] at hj
    subst hj
    have q0 := h0 0 _ rfl
    have q1 := h0 1 _ rfl
    have q2 := h0 2 _ rfl
    have q00 := (hX 0 (by omega)).2 0 _ rfl
    obtain ⟨b', o, spot⟩ := a
    have hspot : spot = none := by simpa [Addr.add] using World.cell?_spot q00
    subst hspot
    rw [Addr.add_lit, Addr.add_lit] at q0 q1 q2
    exact ⟨hx0, b', o, rfl, q0, q1, q2⟩
theorem wrs_reach {H : Type} {k : Nat} {y : DataW H} (hZ : k = 0 ∨ ∃ el sp, y = .slice el sp ∧ el.length = k) (hall : ∀ n ∈ y.weights Try.prog 22, n ≤ reachBytes) : k ≤ reachBytes := by
  rcases hZ with h | ⟨el, sp, h, hel⟩
  · omega
  · have h1 := hall ((el.length + sp.length) * Try.prog.bytesOf 34) (by rw [h]; simp [DataW.weights, Try.underlying22])
    rw [bytesWr, hel] at h1
    omega
end Go.Proofs.Ytkffnbcfmaoldab
