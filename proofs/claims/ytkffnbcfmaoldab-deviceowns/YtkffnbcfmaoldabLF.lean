/- size, place; the steps of a script at a device whose power is on. -/
import Derived.Test.YtkffnbcfmaoldabLC
import Derived.Test.YtkffnbcfmaoldabDView
namespace Go.Proofs.Ytkffnbcfmaoldab
open Go.RowKit Go.Maps
set_option maxRecDepth 100000

/-- A number of blocks from 1 to 64. -/
def sizeN (n : Int) : Nat := (1 + (n.tmod 64 + 64).tmod 64).toNat
theorem sizeN_bd (n : Int) : 1 ≤ sizeN n ∧ sizeN n ≤ 64 ∧ ((sizeN n : Nat) : Int) = 1 + (n.tmod 64 + 64).tmod 64 := by
  have h1 : (n.tmod 64).natAbs < 64 := by
    rw [Int.natAbs_tmod]
    exact Nat.mod_lt _ (by decide)
  have h2 : (n.tmod 64 + 64).tmod 64 = (n.tmod 64 + 64) % 64 := Int.tmod_eq_emod_of_nonneg (by omega)
  unfold sizeN
  rw [h2]
  omega
set_option maxHeartbeats 1000000 in
theorem size_law (n : Int) (w : World) : Calls Try.prog 7 #[.int .i64 n] w fun e w' => e = .returned (.int .i64 (sizeN n)) ∧ w' = w := by
  have h1 : (n.tmod 64).natAbs < 64 := by
    rw [Int.natAbs_tmod]
    exact Nat.mod_lt _ (by decide)
  have h2 : wrap64 (n.tmod 64 + 64) = n.tmod 64 + 64 := by unfold wrap64; omega
  have h3 : wrap64 (1 + (n.tmod 64 + 64).tmod 64) = 1 + (n.tmod 64 + 64).tmod 64 := by
    rw [Int.tmod_eq_emod_of_nonneg (by omega)]; unfold wrap64; omega
  have h4 := (sizeN_bd n).2.2
  go_enter Try.func7, Try.ntmps7
  go_wp2
  go_ret
  refine ⟨?_, rfl⟩
  have h5 : (n.tmod 64 + 64).tmod 64 = (n.tmod 64 + 64) % 64 := Int.tmod_eq_emod_of_nonneg (by omega)
  have h6 : (n.tmod 64 + 64) % 64 = n.tmod 64 % 64 := by omega
  rw [h4, h5, h6]
  rfl
/-- A block of a device of k. -/
def placeN (b : Int) (k : Nat) : Nat := ((b.tmod k + k).tmod k).toNat
theorem placeN_bd (b : Int) (k : Nat) (h0 : 1 ≤ k) : placeN b k < k ∧ ((placeN b k : Nat) : Int) = (b.tmod k + k).tmod k := by
  have h1 : (b.tmod k).natAbs < k := by
    rw [Int.natAbs_tmod]
    exact Nat.mod_lt _ (by omega)
  have h2 : (b.tmod k + k).tmod k = (b.tmod k + k) % k := Int.tmod_eq_emod_of_nonneg (by omega)
  have h3 := Int.emod_nonneg (b.tmod k + k) (show (k : Int) ≠ 0 by omega)
  have h4 := Int.emod_lt_of_pos (b.tmod k + k) (show (0 : Int) < k by omega)
  unfold placeN
  rw [h2]
  omega
set_option maxHeartbeats 1000000 in
theorem place_law (b : Int) (k : Nat) (h0 : 1 ≤ k) (hk : k ≤ 4096) (w : World) : Calls Try.prog 11 #[.int .i64 b, .int .i64 k] w fun e w' => e = .returned (.int .i64 (placeN b k)) ∧ w' = w := by
  have h1 : (b.tmod k).natAbs < k := by
    rw [Int.natAbs_tmod]
    exact Nat.mod_lt _ (by omega)
  have hki : (k : Int) ≤ 4096 := by omega
  have hk0 : (0 : Int) < k := by omega
  have hkz : ((k : Int) == 0) = false := by simp; omega
  have h2 : wrap64 (b.tmod k + k) = b.tmod k + k := by unfold wrap64; omega
  have h4 := (placeN_bd b k h0).2
  go_enter Try.func11, Try.ntmps11
  go_wp2
  go_ret
  refine ⟨?_, rfl⟩
  have h5 : (b.tmod k + k).tmod k = (b.tmod k + k) % k := Int.tmod_eq_emod_of_nonneg (by omega)
  rw [h4, h5]
  rfl
/-- The writes of the first steps. -/
def pw (k : Nat) (ws : List Stp) : List (Nat × List Int) := ws.map (fun s => (placeN s.b k, List.replicate 512 s.x))
theorem pw_take (k : Nat) (ws : List Stp) (j : Nat) (s : Stp) (h : ws[j]? = some s) : pw k (ws.take (j + 1)) = pw k (ws.take j) ++ [(placeN s.b k, List.replicate 512 s.x)] := by
  have hj := (List.getElem?_eq_some_iff.1 h).1
  rw [List.take_succ_eq_append_getElem hj, (List.getElem?_eq_some_iff.1 h).2]
  simp [pw]
theorem grow_apart {F G : Nat → Prop} {w w' : World} (h : ∀ i, F i → ¬ G i) (hG : ∀ i, G i → i < w.heap.size) : ∀ i, grow F w w' i → ¬ G i := fun i hi hg => hi.elim (fun q => h i q hg) (fun q => by have := hG i hg; omega)
theorem kept_all : ∀ (ps : List (Nat × List Int)) (m : Nat), ps.length ≤ m → kept ps (List.replicate m true) = ps
  | [], m, _ => by cases m <;> rfl
  | p :: ps, 0, h => by simp at h
  | p :: ps, m + 1, h => by
    rw [List.replicate_succ]
    simp [kept, kept_all ps m (by simpa using h)]
theorem KLies.own {w : World} {base n : Nat} {ao : Option Addr} {c : Nat} {ks : List Bool} (h : w.ownsRow base 4 1 (.slice ao n c) n (ks.map Value.bool)) : KLies w ao n c ks := by
  have hl : ks.length = n := by simpa using h.1
  rcases h.2 with ⟨hv, h0⟩ | ⟨g, cap, cur, hv, _, _, hnc, _⟩
  · cases hv
    obtain rfl : ks = [] := List.eq_nil_of_length_eq_zero hl
    exact KLies.nil w
  · cases hv
    refine ⟨hl, hnc, fun j b hj => ⟨g, 0, rfl, ?_⟩⟩
    have hjl := (List.getElem?_eq_some_iff.1 hj).1
    rw [Nat.zero_add, h.cellAt j (by omega)]
    simp [hj]
end Go.Proofs.Ytkffnbcfmaoldab
