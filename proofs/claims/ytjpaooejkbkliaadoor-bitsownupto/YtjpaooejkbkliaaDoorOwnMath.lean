/- BitsOwn, readers: what stands in each reader's bytes, and what is read of it. -/
import Derived.Test.YtjpaooejkbkliaaDoorBackMath
import Derived.Laws.BitsAllLaws
namespace Go.Proofs.YtjpaooejkbkliaaDoor
open Go.RowKit
set_option maxRecDepth 100000

theorem nat_xor_one (a : Nat) : a ^^^ 1 = if a % 2 = 0 then a + 1 else a - 1 := by
  have h1 : (a ^^^ 1) / 2 = a / 2 := by rw [Nat.xor_div_two]; simp
  have h2 : (a ^^^ 1) % 2 = (a + 1) % 2 := by
    have h := Nat.xor_mod_two_pow (a := a) (b := 1) (n := 1)
    simp only [Nat.pow_one] at h
    rw [h]
    rcases Nat.mod_two_eq_zero_or_one a with e | e
    · rw [e, show (0 ^^^ 1 % 2 : Nat) = 1 by decide]; omega
    · rw [e, show (1 ^^^ 1 % 2 : Nat) = 0 by decide]; omega
  split <;> omega

theorem xor_one_i64 (a : Nat) (ha : a < 4611686018427387904) : bits .xor .i64 (a : Int) 1 = ((a ^^^ 1 : Nat) : Int) := by
  have hx : a ^^^ 1 < 2 ^ 63 := Nat.xor_lt_two_pow (by omega) (by omega)
  have h1 : (BitVec.ofInt 64 (a : Int)).toNat = a := by
    rw [BitVec.ofInt_natCast, BitVec.toNat_ofNat]; exact Nat.mod_eq_of_lt (by omega)
  show IntKind.i64.wrap ((BitVec.ofInt 64 (a : Int) ^^^ BitVec.ofInt 64 (1 : Int)).toNat : Int) = _
  rw [BitVec.toNat_xor, h1, show (BitVec.ofInt 64 (1 : Int)).toNat = 1 from rfl, IntKind.wrap_i64]
  omega
theorem xor_zero_i64 (a : Nat) (ha : a < 4611686018427387904) : bits .xor .i64 (a : Int) 0 = (a : Int) := by
  have h1 : (BitVec.ofInt 64 (a : Int)).toNat = a := by
    rw [BitVec.ofInt_natCast, BitVec.toNat_ofNat]; exact Nat.mod_eq_of_lt (by omega)
  show IntKind.i64.wrap ((BitVec.ofInt 64 (a : Int) ^^^ BitVec.ofInt 64 (0 : Int)).toNat : Int) = _
  rw [BitVec.toNat_xor, h1, show (BitVec.ofInt 64 (0 : Int)).toNat = 0 from rfl, Nat.xor_zero, IntKind.wrap_i64]
  omega

/-- The number that reader j bears. -/
def flipN (j : Nat) : Nat := if j % 2 = 0 then j / 2 else j / 2 ^^^ 1
theorem flipN_lt (j : Nat) (hj : j < 2000000000) : flipN j < 2000000000 := by
  unfold flipN
  split
  · omega
  · rw [nat_xor_one]; split <;> omega

theorem be4 (X : Int) : be X 4 = [X / 16777216 % 256, X / 65536 % 256, X / 256 % 256, X % 256] := by
  simp [be]

theorem flip_byte (a : Nat) : bits .xor .u8 ((a : Int) % 256) 1 = ((a ^^^ 1 : Nat) : Int) % 256 := by
  rw [u8_xor _ _ (by omega) (by omega) (by omega) (by omega)]
  have e : ((a : Int) % 256).toNat = a % 256 := by omega
  rw [e, show (1 : Int).toNat = 1 from rfl, nat_xor_one, nat_xor_one]
  split <;> split <;> omega
theorem xor_one_twice (a : Nat) : (a ^^^ 1) ^^^ 1 = a := by rw [Nat.xor_assoc]; simp
theorem flip_set (a : Nat) (T : List Int) : (be (a : Int) 4 ++ T).set 3 (((a ^^^ 1 : Nat) : Int) % 256) = be ((a ^^^ 1 : Nat) : Int) 4 ++ T := by
  have h := nat_xor_one a
  have e1 : ((a ^^^ 1 : Nat) : Int) / 256 = (a : Int) / 256 := by
    rw [h]; split <;> omega
  have e2 : ((a ^^^ 1 : Nat) : Int) / 65536 = (a : Int) / 65536 := by omega
  have e3 : ((a ^^^ 1 : Nat) : Int) / 16777216 = (a : Int) / 16777216 := by omega
  rw [be4, be4, e1, e2, e3]
  rfl
theorem flip_get (a : Int) (T : List Int) : (be a 4 ++ T).getD 3 0 = a % 256 := by
  rw [be4]; rfl

/-- What follows the number in a reader's bytes. -/
def tailOf (dl : Nat) (ds : List Int) : List Int := be (dl : Int) 4 ++ ds ++ List.replicate (padN dl) 0
theorem tail_len {dl : Nat} {ds : List Int} (h : ds.length = dl) : (tailOf dl ds).length = 4 + dl + padN dl := by
  simp [tailOf, be_length, h]; omega
theorem be_small (X : Int) (k : Nat) : ∀ x ∈ be X k, 0 ≤ x ∧ x ≤ 255 := by
  induction k with
  | zero => intro x hx; simp [be] at hx
  | succ k ih =>
    intro x hx
    simp only [be, List.mem_cons] at hx
    rcases hx with rfl | hx
    · omega
    · exact ih x hx
theorem tail_small {dl : Nat} {ds : List Int} (h : ∀ x ∈ ds, 0 ≤ x ∧ x ≤ 255) : ∀ x ∈ tailOf dl ds, 0 ≤ x ∧ x ≤ 255 := by
  intro x hx
  simp only [tailOf, List.mem_append, List.mem_replicate] at hx
  rcases hx with (hx | hx) | ⟨_, rfl⟩
  · exact be_small _ _ x hx
  · exact h x hx
  · omega

theorem rd_first (A : Nat) (T : List Int) (n : Nat) (hA : A < 4294967296) (hn : (be (A : Int) 4 ++ T).length = n) : rdNum 4 n (be (A : Int) 4 ++ T) 0 0 4294967296 = ((A : Int), 4, 0) := by
  have e4 : (be (A : Int) 4).length = 4 := be_length _ _
  have hv : val (((be (A : Int) 4 ++ T).drop 0).take 4) = A := by
    rw [List.drop_zero, List.take_append_of_le_length (by omega), List.take_of_length_le (by omega)]
    exact val_be 4 A (by omega) (by omega)
  unfold rdNum
  rw [hv, if_neg (by simp), if_neg (by simp [e4] at hn; omega), if_neg (by omega)]
theorem rdText_more {n : Nat} {bs : List Int} {pl : Nat} {M M' : Int} {x : List Int} {p : Nat} (h : rdText n bs pl 0 M = (x, p, 0)) (hM : M ≤ M') : rdText n bs pl 0 M' = (x, p, 0) := by
  unfold rdText at h ⊢
  split at h
  · simp at h; omega
  · split at h
    · simp at h
    · split at h
      · simp at h
      · rename_i h1 h2 h3
        rw [if_neg h1, if_neg h2, if_neg (by omega)]
        exact h
theorem rd_second (A : Nat) (dl : Nat) (ds : List Int) (n : Nat) (hl : ds.length = dl) (hd : dl ≤ 1048576) (hn : (be (A : Int) 4 ++ tailOf dl ds).length = n) : rdText n (be (A : Int) 4 ++ tailOf dl ds) 4 0 4294967296 = (ds, n, 0) := by
  have e4 : (be (A : Int) 4).length = 4 := be_length _ _
  have ht := tail_len hl
  have hnn : n = 4 + (4 + dl + padN dl) := by rw [← hn, List.length_append, e4, ht]
  have hdrop : (be (A : Int) 4 ++ tailOf dl ds).drop 4 = tailOf dl ds := by
    rw [List.drop_append_of_le_length (by omega), List.drop_of_length_le (by omega), List.nil_append]
  have h := back_text n (be (A : Int) 4 ++ tailOf dl ds) 4 dl ds hl hd (by omega) (by rw [hdrop, List.take_of_length_le (by omega)]; rfl)
  rw [← hnn] at h
  exact rdText_more h (by omega)
end Go.Proofs.YtjpaooejkbkliaaDoor
