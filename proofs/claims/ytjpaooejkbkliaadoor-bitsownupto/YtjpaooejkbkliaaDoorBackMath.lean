/- Plain mathematics: what was written is read back; what is cut off is too short. -/
import Derived.Test.YtjpaooejkbkliaaDoorAll
namespace Go.Proofs.YtjpaooejkbkliaaDoor
open Go.RowKit

theorem be_mod (X : Int) (k : Nat) : be X k = be (X % 2 ^ (8 * k)) k := by
  have h := be_add (X / 2 ^ (8 * k)) k (X % 2 ^ (8 * k)) k (Nat.le_refl _)
  rw [Int.mul_comm, Int.emod_add_mul_ediv] at h
  exact h
theorem val_be : ∀ (k : Nat) (X : Int), 0 ≤ X → X < 2 ^ (8 * k) → val (be X k) = X
  | 0, X, h0, h1 => by simp at h1; simp [be, val]; omega
  | k + 1, X, h0, h1 => by
    have hp : (0 : Int) < 2 ^ (8 * k) := Int.pow_pos (by decide)
    rw [be, val_cons, be_length, p256, be_mod X k, val_be k _ (Int.emod_nonneg _ (Int.ne_of_gt hp)) (Int.emod_lt_of_pos _ hp)]
    have hq0 : 0 ≤ X / 2 ^ (8 * k) := Int.ediv_nonneg h0 (Int.le_of_lt hp)
    have hq1 : X / 2 ^ (8 * k) < 256 := by
      rw [Int.ediv_lt_iff_lt_mul hp]
      rw [show 8 * (k + 1) = 8 * k + 8 by omega, Int.pow_add] at h1
      rw [Int.mul_comm]; exact h1
    rw [Int.emod_eq_of_lt hq0 hq1]
    have := Int.emod_add_mul_ediv X (2 ^ (8 * k))
    rw [Int.mul_comm] at this
    omega

theorem back_num (k n : Nat) (bs : List Int) (pl : Nat) (X : Int) (h0 : 0 ≤ X) (h1 : X < 2 ^ (8 * k)) (hfit : pl + k ≤ n) (hpre : (bs.drop pl).take k = be X k) : rdNum k n bs pl 0 X = (X, pl + k, 0) := by
  unfold rdNum
  rw [if_neg (by simp), if_neg (by omega), hpre, val_be k X h0 h1, if_neg (by omega)]
theorem cut_num (k n : Nat) (bs : List Int) (pl : Nat) (X : Int) (h : n < pl + k) : rdNum k n bs pl 0 X = (0, pl, 11) := by
  unfold rdNum
  rw [if_neg (by simp), if_pos h]
theorem back_sum (n : Nat) (bs : List Int) (pl : Nat) (S : Int) (h0 : 0 ≤ S) (h1 : S ≤ 18446744073709551615) (hfit : pl + 8 ≤ n) (hpre : (bs.drop pl).take 8 = be S 8) : rdSum n bs pl 0 = (S, pl + 8, 0) := by
  have h2 : S < 2 ^ (8 * 8) := Int.lt_of_le_of_lt h1 (by decide)
  unfold rdSum
  rw [if_neg (by simp), if_neg (by omega), hpre, val_be 8 S h0 h2]
theorem cut_sum (n : Nat) (bs : List Int) (pl : Nat) (h : n < pl + 8) : rdSum n bs pl 0 = (0, pl, 11) := by
  unfold rdSum
  rw [if_neg (by simp), if_pos h]

theorem val_len (dl : Nat) (h : dl ≤ 1048576) : val (be (dl : Int) 4) = dl :=
  val_be 4 dl (by omega) (Int.lt_of_le_of_lt (show (dl : Int) ≤ 1048576 by omega) (by decide))
theorem back_text (n : Nat) (bs : List Int) (pl dl : Nat) (ds : List Int) (hl : ds.length = dl) (hd : dl ≤ 1048576) (hfit : pl + (4 + dl + padN dl) ≤ n) (hpre : (bs.drop pl).take (4 + dl + padN dl) = be dl 4 ++ ds ++ List.replicate (padN dl) 0) :
    rdText n bs pl 0 dl = (ds, pl + (4 + dl + padN dl), 0) := by
  have e4 : (be (dl : Int) 4).length = 4 := be_length _ _
  have h4 : (bs.drop pl).take 4 = be (dl : Int) 4 := by
    have h := congrArg (List.take 4) hpre
    have e : (be (dl : Int) 4 ++ ds ++ List.replicate (padN dl) 0).take 4 = be (dl : Int) 4 := by
      rw [List.append_assoc, List.take_append_of_le_length (by omega)]
      exact List.take_of_length_le (by omega)
    rw [e, List.take_take, Nat.min_eq_left (by omega)] at h
    exact h
  have hD : (bs.drop (pl + 4)).take dl = ds := by
    have h := congrArg (fun l => (l.drop 4).take dl) hpre
    have e : ((be (dl : Int) 4 ++ ds ++ List.replicate (padN dl) 0).drop 4).take dl = ds := by
      rw [List.append_assoc, List.drop_append_of_le_length (by omega)]
      rw [show (be (dl : Int) 4).drop 4 = [] from List.drop_of_length_le (by omega), List.nil_append, List.take_append_of_le_length (by omega)]
      exact List.take_of_length_le (by omega)
    have e2 : (((bs.drop pl).take (4 + dl + padN dl)).drop 4).take dl = (bs.drop (pl + 4)).take dl := by
      rw [List.drop_take, List.take_take, List.drop_drop, Nat.min_eq_left (by omega)]
    exact e2.symm.trans (h.trans e)
  have hZ : ∀ t, t < padN dl → bs.getD (pl + (4 + dl) + t) 0 = 0 := by
    intro t ht
    have h := congrArg (fun l => l[4 + dl + t]?) hpre
    have e : (be (dl : Int) 4 ++ ds ++ List.replicate (padN dl) 0)[4 + dl + t]? = some 0 := by
      rw [List.getElem?_append_right (by simp [e4, hl])]
      simp [e4, hl, ht]
    have e2 : ((bs.drop pl).take (4 + dl + padN dl))[4 + dl + t]? = bs[pl + (4 + dl) + t]? := by
      rw [List.getElem?_take, if_pos (by omega), List.getElem?_drop]
      congr 1; omega
    have := e2.symm.trans (h.trans e)
    simp [List.getD, this]
  unfold rdText
  rw [if_neg (by simp), if_neg (by omega), h4, val_len dl hd, if_neg (by omega)]
  simp only [Int.toNat_natCast]
  rw [if_neg (by omega), if_neg (fun h => h hZ), hD]
theorem cut_text (n : Nat) (bs : List Int) (pl dl : Nat) (hd : dl ≤ 1048576) (hcut : n < pl + (4 + dl + padN dl)) (hpre : pl + 4 ≤ n → (bs.drop pl).take 4 = be (dl : Int) 4) :
    rdText n bs pl 0 dl = ([], pl, 11) := by
  unfold rdText
  rw [if_neg (by simp)]
  by_cases h : n < pl + 4
  · rw [if_pos h]
  · rw [if_neg h, hpre (by omega), val_len dl hd, if_neg (by omega)]
    simp only [Int.toNat_natCast]
    rw [if_pos hcut]
end Go.Proofs.YtjpaooejkbkliaaDoor
