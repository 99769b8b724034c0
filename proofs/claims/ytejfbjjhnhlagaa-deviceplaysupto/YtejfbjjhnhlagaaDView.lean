/- Lists of bytes, of bools and of steps that came in, opened once. -/
import Derived.Test.YtejfbjjhnhlagaaRows
import Derived.Test.YtejfbjjhnhlagaaDJ
import Derived.ProofKit
import Derived.OpenShut
import Derived.SizedLaws
import Derived.Deep.Slices
namespace Go.Proofs.Ytejfbjjhnhlagaa
open Go.ChangeShapes Go.WideShapes Go.ChangeAt Go.RowKit Go.Deep
set_option maxRecDepth 100000

theorem own : ownKnob Try.prog.godebug = none := by kernel_rfl
theorem laidOut : laidOutB Try.prog = true := by kernel_rfl
theorem cells5 : Try.prog.cellsOf 5 = 1 := by kernel_rfl
theorem cells3 : Try.prog.cellsOf 3 = 1 := by kernel_rfl
theorem cells4 : Try.prog.cellsOf 4 = 1 := by kernel_rfl
theorem bytes5 : Try.prog.bytesOf 5 = 1 := by kernel_rfl
theorem bytes4 : Try.prog.bytesOf 4 = 1 := by kernel_rfl

/-- A slice of bytes that came in, nil or not. -/
theorem view_bytes {H : Type} {enc : TypeId × Value → H} {W : World} {fuel : Nat} {a0 : Option Addr} {len cap : Nat} {d : DataW H} {p : List MemPlace}
    (hf : DataW.trod enc Try.prog W 0 (fun _ => true) true fuel 33 (Value.slice a0 len cap).cells.toList = some (d, p)) :
    ∃ Z : List Int, Lies W a0 len cap Z ∧ (∀ x ∈ Z, 0 ≤ x ∧ x ≤ 255) ∧ (len = 0 ∨ ∃ sp, d = .slice (lits .u8 Z) sp) := by
  rcases open_ints Try.underlying33 Try.underlying5 cells5 hf with ⟨hcs, hx⟩ | ⟨a, len', cap', zs, hcs, _, hl, hm, hz, hx, hcell, hwz⟩
  · simp [Value.cells] at hcs
    obtain ⟨rfl, rfl, rfl⟩ := hcs
    exact ⟨[], Lies.nil W, (fun n hn => by cases hn), Or.inl rfl⟩
  · simp [Value.cells] at hcs
    obtain ⟨rfl, rfl, rfl⟩ := hcs
    simp only [Prod.mk.injEq] at hx
    obtain ⟨rfl, rfl⟩ := hx
    simp only [if_true] at hz
    refine ⟨zs.take len, ⟨(by simp; omega), hl, (fun h => by cases h), fun ad had t u hu => ?_⟩, fun n hn => bounds_u8 (hwz n (List.mem_of_mem_take hn)), Or.inr ⟨_, rfl⟩⟩
    obtain rfl := Option.some.inj had
    have ht : t < len := by
      have := (List.getElem?_eq_some_iff.1 hu).1
      simp at this; omega
    rw [hcell t (by omega)]
    rw [List.map_take, List.getElem?_take, if_pos ht, List.getElem?_map, Option.map_eq_some_iff] at hu
    obtain ⟨x, hx, rfl⟩ := hu
    simp [List.getD, hx]
/-- The place j of a sized row, a list of bytes, is of at most 2 ^ 47 - 4096. -/
theorem reach_bytes {H : Type} {ts : List TypeId} {ds : List (DataW H)} {len : Nat} {Z : List Int} {d : DataW H} {j : Nat} (hsz : (DataW.weightsEach Try.prog ts ds).all (· ≤ reachBytes) = true) (ht : ts[j]? = some 33) (hd : ds[j]? = some d) (hZ : Z.length = len) (h : len = 0 ∨ ∃ sp, d = .slice (lits .u8 Z) sp) : len ≤ 140737488351232 := by
  rcases h with h | ⟨sa, h⟩
  · omega
  · have := sized_slice hsz (j := j) (t := 33) (e := 5) ht (by rw [hd, h]) Try.underlying33
    rw [bytes5] at this
    simp only [lits, List.length_map, hZ, reachBytes] at this
    omega
theorem each_reach {H : Type} {ts : List TypeId} {ds : List (DataW H)} (hsz : (DataW.weightsEach Try.prog ts ds).all (· ≤ reachBytes) = true) {j : Nat} {t : TypeId} {d : DataW H} (ht : ts[j]? = some t) (hd : ds[j]? = some d) : ∀ n ∈ d.weights Try.prog t, n ≤ reachBytes := fun n hn => by
  simpa using List.all_eq_true.1 hsz n (DataW.weights_mem_each ht hd n hn)

/-- A slice of bools that came in. -/
theorem view_bools {H : Type} {enc : TypeId × Value → H} {W : World} {fuel : Nat} {a0 : Option Addr} {len cap : Nat} {y : DataW H × List MemPlace}
    (hf : DataW.trod enc Try.prog W 0 (fun _ => true) true fuel 34 (Value.slice a0 len cap).cells.toList = some y) :
    ∃ ks : List Bool, KLies W a0 len cap ks ∧ (len = 0 ∨ ∃ el sp, y.1 = .slice el sp ∧ el.length = len) := by
  rcases open_slice Try.underlying34 hf with ⟨hcs, hx⟩ | ⟨a, len', cap', m, n, D, Pl, hcs, _, hl, hm, hmm, hx, hel⟩
  · simp [Value.cells] at hcs
    obtain ⟨rfl, rfl, rfl⟩ := hcs
    exact ⟨[], KLies.nil W, .inl rfl⟩
  · simp [Value.cells] at hcs
    obtain ⟨rfl, rfl, rfl⟩ := hcs
    simp only [if_true] at hmm
    rw [cells4] at hel
    obtain ⟨X, hX⟩ := choose_lt (α := Bool) (p := fun i x => W.cell? (a.add (i * 1)) = some (.bool x)) (n := len) (fun i hi => by
      obtain ⟨cs', h1, h2⟩ := hel i (by omega)
      obtain ⟨x, e, _⟩ := DataW.trod_bool Try.underlying4 h2
      obtain ⟨_, hlen, hcell⟩ := World.cells?_some h1
      have := hcell 0 (by omega)
      subst e
      refine ⟨x, ?_⟩
      have e0 : (a.add (i * 1)).add 0 = a.add (i * 1) := by simp [Addr.add]
      rw [e0] at this
      simpa using this)
    refine ⟨(List.range len).map X, ⟨by simp, hl, fun j b hj => ?_⟩, .inr ⟨_, _, by rw [hx], by simp⟩⟩
    have hjl : j < len := by
      have := (List.getElem?_eq_some_iff.1 hj).1
      simpa using this
    have h0 := hX j hjl
    have h00 := hX 0 (by omega)
    obtain ⟨b', o, spot⟩ := a
    have hspot : spot = none := by simpa [Addr.add] using World.cell?_spot h00
    subst hspot
    refine ⟨b', o, rfl, ?_⟩
    rw [Addr.add_lit, Nat.mul_one] at h0
    rw [h0]
    simp [hjl] at hj
    rw [hj]
theorem bools_reach {H : Type} {k : Nat} {y : DataW H} (hZ : k = 0 ∨ ∃ el sp, y = .slice el sp ∧ el.length = k) (hall : ∀ n ∈ y.weights Try.prog 34, n ≤ reachBytes) : k ≤ reachBytes := by
  rcases hZ with h | ⟨el, sp, h, hel⟩
  · omega
  · have h1 := hall ((el.length + sp.length) * Try.prog.bytesOf 4) (by rw [h]; simp [DataW.weights, Try.underlying34])
    rw [bytes4, hel] at h1
    omega

/-- A step: the block, the byte, whether it is a flush. -/
structure Stp where
  b : Int
  x : Int
  fl : Bool
/-- The slice reads as these steps. -/
structure WLies (w : World) (ao : Option Addr) (n c : Nat) (ws : List Stp) : Prop where
  hlen : ws.length = n
  hle : n ≤ c
  hcells : ∀ (j : Nat) s, ws[j]? = some s → (0 ≤ s.x ∧ s.x ≤ 255) ∧ ∃ g o, ao = some ⟨g, o, none⟩ ∧ w.cell? ⟨g, o + j * 3, none⟩ = some (.int .i64 s.b) ∧ w.cell? ⟨g, o + j * 3 + 1, none⟩ = some (.int .u8 s.x) ∧ w.cell? ⟨g, o + j * 3 + 2, none⟩ = some (.bool s.fl)
theorem WLies.below {w w' : World} {ao : Option Addr} {n c B : Nat} {ws : List Stp} (h : WLies w ao n c ws) (hb : Below B w w') (hB : w.heap.size ≤ B) : WLies w' ao n c ws :=
  ⟨h.hlen, h.hle, fun j s hj => by
    obtain ⟨hx, g, o, e, h1, h2, h3⟩ := h.hcells j s hj
    have l1 := World.block_lt_of_cell? w _ h1
    have hlt : g < B := Nat.lt_of_lt_of_le l1 hB
    exact ⟨hx, g, o, e, (hb.cell hlt).trans h1, (hb.cell hlt).trans h2, (hb.cell hlt).trans h3⟩⟩
theorem KLies.below {w w' : World} {ao : Option Addr} {n c B : Nat} {ks : List Bool} (h : KLies w ao n c ks) (hb : Below B w w') (hB : w.heap.size ≤ B) : KLies w' ao n c ks :=
  ⟨h.hlen, h.hle, fun j s hj => by
    obtain ⟨g, o, e, h1⟩ := h.hcells j s hj
    have l1 := World.block_lt_of_cell? w _ h1
    exact ⟨g, o, e, (hb.cell (Nat.lt_of_lt_of_le l1 hB)).trans h1⟩⟩
end Go.Proofs.Ytejfbjjhnhlagaa
