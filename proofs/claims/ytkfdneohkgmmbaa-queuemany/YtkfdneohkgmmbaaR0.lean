/- Rows of lists by a function; bound by its contract. -/
import Derived.Test.YtkfdneohkgmmbaaQ8
namespace Go.Proofs.Ytkfdneohkgmmbaa
open Go.RowKit
set_option maxRecDepth 100000

/-- A list for each client. -/
def rows {E : Type} (n : Nat) (f : Nat → List E) : List (List E) := (List.range n).map f
theorem rows_len {E : Type} (n : Nat) (f : Nat → List E) : (rows n f).length = n := by simp [rows]
theorem rows_get {E : Type} (n : Nat) (f : Nat → List E) (i : Nat) (h : i < (rows n f).length) : (rows n f)[i] = f i := by simp [rows]
theorem rows_getD {E : Type} (n : Nat) (f : Nat → List E) (i : Nat) (h : i < n) : (rows n f).getD i [] = f i := by simp [rows, List.getD, h]
theorem rows_congr {E : Type} {n : Nat} {f g : Nat → List E} (h : ∀ r, r < n → f r = g r) : rows n f = rows n g := List.map_congr_left (fun r hr => h r (List.mem_range.1 hr))
theorem rows_set {E : Type} (n : Nat) (f : Nat → List E) (c : Nat) (y : List E) : (rows n f).set c y = rows n (fun r => if r = c then y else f r) := by
  apply List.ext_getElem
  · simp [rows]
  · intro i h1 h2
    rw [rows_get]
    by_cases e : c = i
    · subst e; simp
    · rw [List.getElem_set_ne e, rows_get, if_neg (fun q => e q.symm)]
theorem rows_none {E : Type} (n : Nat) : List.replicate n ([] : List E) = rows n (fun _ => []) := by
  apply List.ext_getElem
  · simp [rows]
  · intro i h1 h2
    rw [rows_get]
    simp
theorem ret_int {k : IntKind} {a b : Int} (h : a = b) : Ending.returned (.int k a) = .returned (.int k b) := by rw [h]
theorem tot_cons (x : List Int) (L : List (List Int)) : tot (x :: L) = x.length + tot L := by simp [tot]
theorem tot_set (L : List (List Int)) : ∀ (c : Nat) (l : List Int) (hc : c < L.length), tot (L.set c l) + L[c].length = tot L + l.length := by
  induction L with
  | nil => intro c l hc; simp at hc
  | cons x L ih =>
    intro c l hc
    cases c with
    | zero => simp [tot_cons]; omega
    | succ c =>
      have := ih c l (by simpa using hc)
      simp [tot_cons] at *
      omega
theorem tot_none (n : Nat) : tot (rows n (fun _ => ([] : List Int))) = 0 := by
  unfold tot rows
  induction n with
  | zero => rfl
  | succ n ih => rw [List.range_succ, List.map_append, List.map_append, List.sum_append, ih]; rfl
theorem tmod_bnd (x : Int) (m : Nat) (hm : 1 ≤ m) : -(m : Int) < x.tmod m ∧ x.tmod m < m := by
  have h1 := Int.tmod_lt_of_pos x (show (0 : Int) < m by omega)
  refine ⟨?_, h1⟩
  have h2 := Int.tmod_lt_of_pos (-x) (show (0 : Int) < m by omega)
  rw [Int.neg_tmod] at h2
  omega
theorem bnd_eq (x : Int) (m : Nat) (hm : 1 ≤ m) : 1 + (x.tmod m + m) % m = ((bnd x m : Nat) : Int) := by
  unfold bnd
  have h1 : 0 ≤ x % (m : Int) := Int.emod_nonneg _ (by omega)
  have h2 : (x.tmod m + m) % (m : Int) = x % m := by
    rw [Int.add_emod_right]
    have := Int.tmod_add_mul_tdiv x m
    conv => rhs; rw [← this]
    rw [Int.add_mul_emod_self_left]
  rw [h2]
  omega
theorem bnd_le (x : Int) (m : Nat) (hm : 1 ≤ m) : 1 ≤ bnd x m ∧ bnd x m ≤ m := by
  unfold bnd
  have h1 : 0 ≤ x % (m : Int) := Int.emod_nonneg _ (by omega)
  have h2 : x % (m : Int) < m := Int.emod_lt_of_pos _ (by omega)
  omega
set_option maxHeartbeats 400000 in
theorem bound_any (x : Int) (m : Nat) (w : World) (hx : -9223372036854775808 ≤ x ∧ x ≤ 9223372036854775807) (h1 : 1 ≤ m) (h2 : m ≤ 4096) :
    Calls Try.prog 15 #[.int .i64 x, .int .i64 m] w fun e w' => e = .returned (.int .i64 (bnd x m : Nat)) ∧ w' = w := by
  obtain ⟨x1, x2⟩ := hx
  obtain ⟨t1, t2⟩ := tmod_bnd x m h1
  have a1 : (1 : Int) ≤ m := by omega
  have a2 : (m : Int) ≤ 4096 := by omega
  have HB : Hid (1 + (x.tmod m + m) % m = ((bnd x m : Nat) : Int)) := bnd_eq x m h1
  go_enter Try.func15, Try.ntmps15
  go_wp2_with fail
  go_ret
  refine ⟨ret_int ?_, rfl⟩
  have e1 : 0 ≤ x.tmod m % (m : Int) := Int.emod_nonneg _ (by omega)
  have e2 : x.tmod m % (m : Int) < m := Int.emod_lt_of_pos _ (by omega)
  have e3 : wrap64 (1 + x.tmod m % (m : Int)) = 1 + x.tmod m % (m : Int) := by unfold wrap64; omega
  rw [e3, ← HB.out, Int.add_emod_right]
end Go.Proofs.Ytkfdneohkgmmbaa
