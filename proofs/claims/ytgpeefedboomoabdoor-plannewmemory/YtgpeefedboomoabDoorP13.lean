/- Plain mathematics on digits and sums; what a superblock says. -/
import Derived.Test.YtgpeefedboomoabDoorP12
namespace Go.Proofs.YtgpeefedboomoabDoor
open Go.RowKit
set_option maxRecDepth 100000

theorem fold_val : ∀ (l : List Int) (a : Int), l.foldl (fun x c => x * 256 + c) a = a * 256 ^ l.length + val l
  | [], a => by simp [val]
  | c :: l, a => by
    have h1 := fold_val l (a * 256 + c)
    have h2 := fold_val l (0 * 256 + c)
    simp only [List.foldl_cons, val, List.length_cons] at *
    rw [h1, h2, Int.pow_succ]
    have : (a * 256 + c) * 256 ^ l.length = a * (256 ^ l.length * 256) + (0 * 256 + c) * 256 ^ l.length := by
      rw [Int.add_mul, Int.mul_assoc, Int.mul_comm 256 (256 ^ l.length)]; simp
    omega
theorem val_cons (c : Int) (l : List Int) : val (c :: l) = c * 256 ^ l.length + val l := by
  have := fold_val l (0 * 256 + c)
  simp only [val, List.foldl_cons] at *
  rw [this]; simp

theorem p256 (k : Nat) : (256 : Int) ^ k = 2 ^ (8 * k) := by
  rw [Int.pow_mul]; rfl

theorem be_add (c : Int) (m : Nat) (X : Int) : ∀ k, k ≤ m → be (X + c * 2 ^ (8 * m)) k = be X k
  | 0, _ => rfl
  | k + 1, h => by
    simp only [be]
    rw [be_add c m X k (by omega)]
    congr 1
    have hp : (2 : Int) ^ (8 * k) ≠ 0 := Int.ne_of_gt (Int.pow_pos (by decide))
    have e : c * 2 ^ (8 * m) = (c * 2 ^ (8 * (m - k - 1)) * 256) * 2 ^ (8 * k) := by
      rw [Int.mul_assoc, Int.mul_assoc]
      congr 1
      rw [show (256 : Int) = 2 ^ 8 by rfl, ← Int.pow_add, ← Int.pow_add]
      congr 1
      omega
    rw [e, Int.add_mul_ediv_right _ _ hp, Int.add_mul_emod_self_right]

theorem be_val : ∀ (l : List Int), (∀ x ∈ l, 0 ≤ x ∧ x ≤ 255) → be (val l) l.length = l
  | [], _ => rfl
  | c :: l, h => by
    have hc := h c (by simp)
    have hl : ∀ x ∈ l, 0 ≤ x ∧ x ≤ 255 := fun x hx => h x (by simp [hx])
    have hb := val_bd l hl
    rw [val_cons, p256, List.length_cons, be]
    rw [p256] at hb
    have hp : (2 : Int) ^ (8 * l.length) ≠ 0 := Int.ne_of_gt (Int.pow_pos (by decide))
    congr 1
    · rw [Int.add_comm, Int.add_mul_ediv_right _ _ hp, Int.ediv_eq_zero_of_lt hb.1 hb.2]
      omega
    · rw [Int.add_comm, be_add c l.length (val l) l.length (Nat.le_refl _)]
      exact be_val l hl

theorem be_mod (X : Int) (k : Nat) : be X k = be (X % 2 ^ (8 * k)) k := by
  have h := be_add (X / 2 ^ (8 * k)) k (X % 2 ^ (8 * k)) k (Nat.le_refl _)
  rw [Int.mul_comm, Int.emod_add_mul_ediv] at h
  exact h
theorem val_be : ∀ (k : Nat) (X : Int), 0 ≤ X → X < 2 ^ (8 * k) → val (be X k) = X
  | 0, X, h0, h1 => by simp at h1; simp [be, val]; omega
  | k + 1, X, h0, h1 => by
    have hp : (0 : Int) < 2 ^ (8 * k) := Int.pow_pos (by decide)
    rw [be, val_cons, be_length, p256, be_mod X k, val_be k _ (Int.emod_nonneg _ (Int.ne_of_gt hp)) (Int.emod_lt_of_pos _ hp)]
    have hq0 : 0 ≤ X / 2 ^ (8 * k) := Int.ediv_nonneg h0 (Int.le_of_lt hp)
    have hq1 : X / 2 ^ (8 * k) < 256 := by
      rw [Int.ediv_lt_iff_lt_mul hp]
      rw [show 8 * (k + 1) = 8 * k + 8 by omega, Int.pow_add] at h1
      rw [Int.mul_comm]; exact h1
    rw [Int.emod_eq_of_lt hq0 hq1]
    have := Int.emod_add_mul_ediv X (2 ^ (8 * k))
    rw [Int.mul_comm] at this
    omega


/-- Bytes. -/
abbrev Bys (l : List Int) : Prop := ∀ x ∈ l, 0 ≤ x ∧ x ≤ 255
theorem stp_inj {h x y : Int} (hh : S2.U h) (hx : S2.By x) (hy : S2.By y) (e : S2.stp h x = S2.stp h y) : x = y := by
  have e1 := S2.inv_mul (hh.xor hx.u)
  have e2 := S2.inv_mul (hh.xor hy.u)
  have e' : IntKind.u64.wrap (bits .xor .u64 h x * 1099511628211) = IntKind.u64.wrap (bits .xor .u64 h y * 1099511628211) := e
  rw [e'] at e1
  exact S2.xor_inj hh hx.u hy.u (e1.symm.trans e2)
theorem fwd_inj {g h : Int} (l : List Int) (hl : ∀ x ∈ l, S2.By x) (hg : S2.U g) (hh : S2.U h) (e : S2.fwd g l = S2.fwd h l) : g = h := by
  have e1 := S2.bwd_fwd l hl hg
  have e2 := S2.bwd_fwd l hl hh
  rw [e] at e1
  exact e1.symm.trans e2
theorem set_parts {X : List Int} {a : Nat} (x : Int) (ha : a < X.length) : X.set a x = X.take a ++ x :: X.drop (a + 1) := by
  rw [List.set_eq_take_append_cons_drop, if_pos ha]
theorem self_parts {X : List Int} {a : Nat} (ha : a < X.length) : X = X.take a ++ X.getD a 0 :: X.drop (a + 1) := by
  have h := set_parts (X.getD a 0) ha
  have e : X.getD a 0 = X[a] := by simp [List.getD, ha]
  rw [e, List.set_getElem_self] at h
  rw [e]; exact h
theorem getD_by {X : List Int} {a : Nat} (hX : Bys X) (ha : a < X.length) : 0 ≤ X.getD a 0 ∧ X.getD a 0 ≤ 255 := by
  have e : X.getD a 0 = X[a] := by simp [List.getD, ha]
  rw [e]; exact hX _ (List.getElem_mem _)
theorem sum_set {X : List Int} {a : Nat} {x : Int} (hX : Bys X) (hx : 0 ≤ x ∧ x ≤ 255) (ha : a < X.length) (e : sumOf (X.set a x) = sumOf X) : x = X.getD a 0 := by
  have e1 : sumOf (X.set a x) = S2.fwd (S2.stp (S2.fwd 14695981039346656037 (X.take a)) x) (X.drop (a + 1)) := by
    rw [set_parts x ha]; show S2.fwd _ _ = _; rw [S2.fwd_append]; rfl
  have e2 : sumOf X = S2.fwd (S2.stp (S2.fwd 14695981039346656037 (X.take a)) (X.getD a 0)) (X.drop (a + 1)) := by
    have q := congrArg (S2.fwd 14695981039346656037) (self_parts ha)
    rw [S2.fwd_append] at q
    exact q
  rw [e1, e2] at e
  have e3 := fwd_inj _ (fun y hy => hX y (List.mem_of_mem_drop hy)) (S2.U.stp _ _) (S2.U.stp _ _) e
  exact stp_inj (S2.U.fwd _ (by decide)) hx (getD_by hX ha) e3
theorem set_bys {X : List Int} {a : Nat} {x : Int} (hX : Bys X) (hx : 0 ≤ x ∧ x ≤ 255) : Bys (X.set a x) := fun y hy => by
  rcases List.mem_or_eq_of_mem_set hy with h | rfl
  · exact hX y h
  · exact hx

theorem drop_past (a b : List Int) (k : Nat) : (a ++ b).drop (a.length + k) = b.drop k := by
  rw [List.drop_append]
  simp
theorem digs_inv : ∀ (l : List Int) (i : Nat), (∀ x ∈ l, 0 ≤ x ∧ x ≤ 4294967295) → i < l.length → numAt (digs l) i = l.getD i 0
  | [], i, _, hi => absurd hi (Nat.not_lt_zero _)
  | x :: l, 0, h, _ => by
    have hx := h x (by simp)
    have e : ((digs (x :: l)).drop (4 * 0)).take 4 = be x 4 := by
      simp only [digs, List.flatMap_cons, Nat.mul_zero, List.drop_zero]
      rw [List.take_append_of_le_length (by rw [be_length]; omega), List.take_of_length_le (by rw [be_length]; omega)]
    unfold numAt
    rw [e, val_be 4 x hx.1 (Int.lt_of_le_of_lt hx.2 (by decide))]
    rfl
  | x :: l, i + 1, h, hi => by
    have ih := digs_inv l i (fun y hy => h y (by simp [hy])) (by simpa using hi)
    have e : (digs (x :: l)).drop (4 * (i + 1)) = (digs l).drop (4 * i) := by
      simp only [digs, List.flatMap_cons]
      rw [show 4 * (i + 1) = (be x 4).length + 4 * i by rw [be_length]; omega, drop_past]
    unfold numAt at ih ⊢
    rw [e, ih]
    rfl
theorem nums_in {s : Shp} (h : InB s) : ∀ x ∈ s.nums, 0 ≤ x ∧ x ≤ 4294967295 := fun x hx => by
  obtain ⟨i, hi, rfl⟩ := List.getElem_of_mem hx
  have hl : s.nums.length = 8 := rfl
  have := nums_small h i (by omega)
  have e : s.nums.getD i 0 = s.nums[i] := by simp [List.getD, hi]
  rw [e] at this
  omega
theorem shp_back {s : Shp} (h : InB s) : shpOf (digs s.nums) = s := by
  have hn := nums_in h
  have e := fun i (hi : i < 8) => digs_inv s.nums i hn hi
  unfold shpOf
  rw [e 0 (by decide), e 1 (by decide), e 2 (by decide), e 3 (by decide), e 4 (by decide), e 5 (by decide), e 6 (by decide), e 7 (by decide)]
  rfl
theorem superB_take (s : Shp) : (superB s).take 36 = headB s := by
  unfold superB
  rw [List.append_assoc, List.take_append_of_le_length (by rw [headB_length]; omega), List.take_of_length_le (by rw [headB_length]; omega)]
theorem superB_sum (s : Shp) : ((superB s).drop 36).take 8 = be (sumOf (headB s)) 8 := by
  unfold superB
  rw [List.append_assoc, show 36 = (headB s).length + 0 by rw [headB_length], drop_past, List.drop_zero, List.take_append_of_le_length (by rw [be_length]; omega), List.take_of_length_le (by rw [be_length]; omega)]
theorem superB_rest (s : Shp) : (superB s).drop 44 = List.replicate 468 0 := by
  unfold superB
  rw [show 44 = (headB s ++ be (sumOf (headB s)) 8).length + 0 by rw [List.length_append, headB_length, be_length], drop_past, List.drop_zero]
theorem superB_magic (s : Shp) : (superB s).take 4 = [65, 78, 88, 83] := by
  have h : (superB s).take 4 = ((superB s).take 36).take 4 := by rw [List.take_take]; rfl
  rw [h, superB_take]
  rfl
theorem superB_nums (s : Shp) : ((superB s).drop 4).take 32 = digs s.nums := by
  have h : ((superB s).drop 4).take 32 = ((superB s).take 36).drop 4 := by rw [List.drop_take]
  rw [h, superB_take]
  rfl
/-- A superblock is read back. -/
theorem rs_back {s : Shp} (h : planE s = 0) : rsA (superB s) = (s, 0) := by
  have hi := planE_in h
  unfold rsA
  rw [if_neg (fun e => e.elim (fun e => e (superB_length s)) (fun e => e (superB_magic s))), superB_sum, superB_take, val_be 8 _ (sumOf_u _).1 (Int.lt_of_le_of_lt (sumOf_u _).2 (by decide)), if_neg (fun e => e rfl), superB_rest,
    if_neg (fun e => e (fun x hx => List.eq_of_mem_replicate hx)), superB_nums, shp_back hi, if_neg (fun e => e h)]
end Go.Proofs.YtgpeefedboomoabDoor
