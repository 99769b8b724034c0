/- What Mend is to answer, as numbers. -/
import Derived.Test.YtnnebmgiifnckabNearMath
import Derived.Test.YtnnebmgiifnckabMore
namespace Go.Proofs.Ytnnebmgiifnckab
open Go.RowKit
set_option maxRecDepth 100000

theorem xor8N {a b : Int} (ha : By a) (hb : By b) : bits .xor .u8 a b = ((a.toNat ^^^ b.toNat : Nat) : Int) := by
  have h1 := ha.1; have h2 := ha.2; have h3 := hb.1; have h4 := hb.2
  exact u8_xor a b h1 (by omega) h3 (by omega)
theorem By.xor {a b : Int} (ha : By a) (hb : By b) : By (bits .xor .u8 a b) := by
  rw [xor8N ha hb]
  have h1 := ha.1; have h2 := ha.2; have h3 := hb.1; have h4 := hb.2
  have : a.toNat ^^^ b.toNat < 2 ^ 8 := Nat.xor_lt_two_pow (by omega) (by omega)
  exact ⟨by omega, by omega⟩

theorem start_u : U 14695981039346656037 := by decide
/-- What must stand at the place j for the sum z. -/
def cand (bs : List Int) (z : Int) (j : Nat) : Int := bits .xor .u64 (inv (bwd z (bs.drop (j + 1)))) (fwd 14695981039346656037 (bs.take j))
theorem cand_u (bs : List Int) (z : Int) (j : Nat) : U (cand bs z j) := (U.inv _).xor (U.fwd _ start_u)
theorem mem_take {l : List Int} (h : ∀ x ∈ l, By x) (k : Nat) : ∀ x ∈ l.take k, By x := fun x hx => h x (List.mem_of_mem_take hx)
theorem mem_drop {l : List Int} (h : ∀ x ∈ l, By x) (k : Nat) : ∀ x ∈ l.drop k, By x := fun x hx => h x (List.mem_of_mem_drop hx)

/-- The difference of the two ways, and the byte. -/
theorem diff_is {bs : List Int} {z : Int} (hby : ∀ x ∈ bs, By x) {j : Nat} (hj : j < bs.length) :
    bits .xor .u64 (fwd 14695981039346656037 (bs.take j)) (bwd z (bs.drop j)) = bits .xor .u64 (cand bs z j) (bs.getD j 0) := by
  have hb := by_getD hby hj
  have hF := U.fwd (bs.take j) start_u
  have e : bwd z (bs.drop j) = bits .xor .u64 (inv (bwd z (bs.drop (j + 1)))) (bs.getD j 0) := by rw [drop_getD bs hj]; rfl
  rw [e]
  unfold cand
  rw [xor_comm (U.inv _) hF, xor_assoc hF (U.inv _) hb.u]
theorem diff_u {bs : List Int} {z : Int} (hby : ∀ x ∈ bs, By x) {j : Nat} (hj : j < bs.length) : U (bits .xor .u64 (cand bs z j) (bs.getD j 0)) := (cand_u _ _ _).xor (by_getD hby hj).u
theorem diff_low {bs : List Int} {z : Int} (hby : ∀ x ∈ bs, By x) {j : Nat} (hj : j < bs.length) : bits .xor .u64 (cand bs z j) (bs.getD j 0) < 256 ↔ cand bs z j < 256 := by
  have e := xor_high (cand_u bs z j) (by_getD hby hj)
  have h1 := (cand_u bs z j).1
  have h2 := (diff_u (z := z) hby hj).1
  omega
theorem diff_byte {bs : List Int} {z : Int} (hby : ∀ x ∈ bs, By x) {j : Nat} (hj : j < bs.length) (h : cand bs z j < 256) :
    bits .xor .u8 (bs.getD j 0) (bits .xor .u64 (cand bs z j) (bs.getD j 0)) = cand bs z j := by
  have hb := by_getD hby hj
  have hd := diff_u (z := z) hby hj
  have hl := (diff_low (z := z) hby hj).2 h
  have h1 := hd.1
  have hc := (cand_u bs z j).1
  rw [xor8N hb ⟨hd.1, by omega⟩, xorN (cand_u bs z j) hb.u, Int.toNat_natCast, Nat.xor_comm (cand bs z j).toNat, ← Nat.xor_assoc, Nat.xor_self, Nat.zero_xor]
  omega

/-- b with the byte y at the place k has the sum z just where y is that number. -/
theorem set_sum {bs : List Int} {z y : Int} (hby : ∀ x ∈ bs, By x) (hz : U z) (hy : By y) {k : Nat} (hk : k < bs.length) :
    fwd 14695981039346656037 (bs.set k y) = z ↔ y = cand bs z k := by
  have e : bs.set k y = bs.take k ++ (y :: bs.drop (k + 1)) := by
    rw [List.set_eq_take_append_cons_drop, if_pos hk]
  have hF := U.fwd (bs.take k) start_u
  have hD := mem_drop hby (k + 1)
  rw [e, fwd_append]
  show fwd (stp (fwd 14695981039346656037 (bs.take k)) y) (bs.drop (k + 1)) = z ↔ _
  unfold cand
  generalize fwd 14695981039346656037 (bs.take k) = F at hF ⊢
  have hB := U.bwd _ hD hz
  constructor
  · intro h
    have h2 : stp F y = bwd z (bs.drop (k + 1)) := by rw [← h, bwd_fwd _ hD (U.stp _ _)]
    have h3 : bits .xor .u64 F y = inv (bwd z (bs.drop (k + 1))) := by
      rw [← h2]; exact (inv_mul (hF.xor hy.u)).symm
    rw [← h3, xor_comm hF hy.u, xor_self hy.u hF]
  · intro h
    have h3 : bits .xor .u64 F y = inv (bwd z (bs.drop (k + 1))) := by
      rw [h, xor_comm hF ((U.inv _).xor hF), xor_self (U.inv _) hF]
    have h2 : stp F y = bwd z (bs.drop (k + 1)) := by
      unfold stp
      rw [h3, mul_inv hB]
    rw [h2, fwd_bwd _ hD hz]

/-- What Mend answers. -/
def Mended (bs : List Int) (z : Int) (i y : Int) (r : Bool) : Prop :=
  (fwd 14695981039346656037 bs = z ∧ i = -1 ∧ y = 0 ∧ r = true) ∨
  (¬ fwd 14695981039346656037 bs = z ∧ ∃ k : Nat, k < bs.length ∧ (∀ j, j < k → 256 ≤ cand bs z j) ∧ cand bs z k < 256 ∧ i = k ∧ y = cand bs z k ∧ r = true) ∨
  (¬ fwd 14695981039346656037 bs = z ∧ (∀ j, j < bs.length → 256 ≤ cand bs z j) ∧ i = 0 ∧ y = 0 ∧ r = false)
theorem Mended.one {bs : List Int} {z i y i' y' : Int} {r r' : Bool} (h : Mended bs z i y r) (h' : Mended bs z i' y' r') : i = i' ∧ y = y' ∧ r = r' := by
  rcases h with ⟨a, rfl, rfl, rfl⟩ | ⟨a, k, hk, hb, hc, rfl, rfl, rfl⟩ | ⟨a, hb, rfl, rfl, rfl⟩
  · rcases h' with ⟨_, rfl, rfl, rfl⟩ | ⟨a', _⟩ | ⟨a', _⟩
    · exact ⟨rfl, rfl, rfl⟩
    · exact absurd a a'
    · exact absurd a a'
  · rcases h' with ⟨a', _⟩ | ⟨_, k', hk', hb', hc', rfl, rfl, rfl⟩ | ⟨_, hb', _⟩
    · exact absurd a' a
    · have e : k = k' := by
        rcases Nat.lt_trichotomy k k' with h | h | h
        · have := hb' k h; omega
        · exact h
        · have := hb k' h; omega
      subst e
      exact ⟨rfl, rfl, rfl⟩
    · have := hb' k hk; omega
  · rcases h' with ⟨a', _⟩ | ⟨_, k', hk', _, hc', _⟩ | ⟨_, _, rfl, rfl, rfl⟩
    · exact absurd a' a
    · have := hb k' hk'; omega
    · exact ⟨rfl, rfl, rfl⟩
theorem Mended.byte {bs : List Int} {z i y : Int} {r : Bool} (h : Mended bs z i y r) : By y := by
  rcases h with ⟨_, _, rfl, _⟩ | ⟨_, k, _, _, hc, _, rfl, _⟩ | ⟨_, _, _, rfl, _⟩
  · decide
  · have := (cand_u bs z k).1
    exact ⟨this, by omega⟩
  · decide
end Go.Proofs.Ytnnebmgiifnckab
