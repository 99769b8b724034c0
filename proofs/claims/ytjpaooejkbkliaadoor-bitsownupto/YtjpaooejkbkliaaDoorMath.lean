/- Plain mathematics: what is read, written again, is what was read. -/
import Derived.Test.YtjpaooejkbkliaaDoorItem
namespace Go.Proofs.YtjpaooejkbkliaaDoor
open Go.RowKit

theorem fold_val : ∀ (l : List Int) (a : Int), l.foldl (fun x c => x * 256 + c) a = a * 256 ^ l.length + val l
  | [], a => by simp [val]
  | c :: l, a => by
    have h1 := fold_val l (a * 256 + c)
    have h2 := fold_val l (0 * 256 + c)
    simp only [List.foldl_cons, val, List.length_cons] at *
    rw [h1, h2, Int.pow_succ]
    have : (a * 256 + c) * 256 ^ l.length = a * (256 ^ l.length * 256) + (0 * 256 + c) * 256 ^ l.length := by
      rw [Int.add_mul, Int.mul_assoc, Int.mul_comm 256 (256 ^ l.length)]; simp
    omega
theorem val_cons (c : Int) (l : List Int) : val (c :: l) = c * 256 ^ l.length + val l := by
  have := fold_val l (0 * 256 + c)
  simp only [val, List.foldl_cons] at *
  rw [this]; simp

theorem p256 (k : Nat) : (256 : Int) ^ k = 2 ^ (8 * k) := by
  rw [Int.pow_mul]; rfl

theorem be_add (c : Int) (m : Nat) (X : Int) : ∀ k, k ≤ m → be (X + c * 2 ^ (8 * m)) k = be X k
  | 0, _ => rfl
  | k + 1, h => by
    simp only [be]
    rw [be_add c m X k (by omega)]
    congr 1
    have hp : (2 : Int) ^ (8 * k) ≠ 0 := Int.ne_of_gt (Int.pow_pos (by decide))
    have e : c * 2 ^ (8 * m) = (c * 2 ^ (8 * (m - k - 1)) * 256) * 2 ^ (8 * k) := by
      rw [Int.mul_assoc, Int.mul_assoc]
      congr 1
      rw [show (256 : Int) = 2 ^ 8 by rfl, ← Int.pow_add, ← Int.pow_add]
      congr 1
      omega
    rw [e, Int.add_mul_ediv_right _ _ hp, Int.add_mul_emod_self_right]

theorem be_val : ∀ (l : List Int), (∀ x ∈ l, 0 ≤ x ∧ x ≤ 255) → be (val l) l.length = l
  | [], _ => rfl
  | c :: l, h => by
    have hc := h c (by simp)
    have hl : ∀ x ∈ l, 0 ≤ x ∧ x ≤ 255 := fun x hx => h x (by simp [hx])
    have hb := val_bd l hl
    rw [val_cons, p256, List.length_cons, be]
    rw [p256] at hb
    have hp : (2 : Int) ^ (8 * l.length) ≠ 0 := Int.ne_of_gt (Int.pow_pos (by decide))
    congr 1
    · rw [Int.add_comm, Int.add_mul_ediv_right _ _ hp, Int.ediv_eq_zero_of_lt hb.1 hb.2]
      omega
    · rw [Int.add_comm, be_add c l.length (val l) l.length (Nat.le_refl _)]
      exact be_val l hl

theorem take_piece (bs : List Int) (pl k : Nat) : bs.take pl ++ (bs.drop pl).take k = bs.take (pl + k) := by
  rw [List.take_add]

theorem piece_len (bs : List Int) (n pl k : Nat) (hl : bs.length = n) (h : pl + k ≤ n) : ((bs.drop pl).take k).length = k := by simp; omega
theorem piece_by {bs : List Int} (pl k : Nat) (hby : ∀ x ∈ bs, 0 ≤ x ∧ x ≤ 255) : ∀ x ∈ (bs.drop pl).take k, 0 ≤ x ∧ x ≤ 255 := fun x hx => hby x (List.mem_of_mem_drop (List.mem_of_mem_take hx))

theorem be_piece (bs : List Int) (n pl k : Nat) (hl : bs.length = n) (h : pl + k ≤ n) (hby : ∀ x ∈ bs, 0 ≤ x ∧ x ≤ 255) : be (val ((bs.drop pl).take k)) k = (bs.drop pl).take k := by
  have := be_val _ (piece_by pl k hby)
  rwa [piece_len bs n pl k hl h] at this

theorem wrap_small (X : Int) (h0 : 0 ≤ X) (h1 : X ≤ 18446744073709551615) : IntKind.u64.wrap X = X := Go.IntWalk.u64_in X ⟨h0, h1⟩

/-- U32 and U64 with the greatest bound: they fail and answer 0, or what they answer is the next bytes. -/
theorem num_cases (k n : Nat) (bs : List Int) (pl : Nat) (code : Int) (hl : bs.length = n) (_hk : k ≤ 8) (hby : ∀ x ∈ bs, 0 ≤ x ∧ x ≤ 255) (_hp : pl ≤ n) :
    (∃ c, rdNum k n bs pl code 9223372036854775807 = (0, pl, c) ∧ (c == 0) = false) ∨
    (∃ x, rdNum k n bs pl code 9223372036854775807 = (x, pl + k, 0) ∧ pl + k ≤ n ∧ bs.take pl ++ be (IntKind.u64.wrap x) k = bs.take (pl + k)) := by
  unfold rdNum
  by_cases hc : code ≠ 0
  · exact .inl ⟨code, by rw [if_pos hc], by simpa using hc⟩
  · rw [if_neg hc]
    by_cases hn : n < pl + k
    · exact .inl ⟨11, by rw [if_pos hn], by decide⟩
    · rw [if_neg hn]
      split
      · exact .inl ⟨12, rfl, by decide⟩
      · rename_i hv
        have hb := val_bd _ (piece_by pl k hby)
        refine .inr ⟨_, rfl, by omega, ?_⟩
        rw [wrap_small _ hb.1 (by omega), be_piece bs n pl k hl (by omega) hby, take_piece]

theorem sum_cases (n : Nat) (bs : List Int) (pl : Nat) (code : Int) (hl : bs.length = n) (hby : ∀ x ∈ bs, 0 ≤ x ∧ x ≤ 255) (_hp : pl ≤ n) :
    (∃ c, rdSum n bs pl code = (0, pl, c) ∧ (c == 0) = false) ∨
    (∃ x, rdSum n bs pl code = (x, pl + 8, 0) ∧ pl + 8 ≤ n ∧ 0 ≤ x ∧ x ≤ 18446744073709551615 ∧ bs.take pl ++ be x 8 = bs.take (pl + 8)) := by
  unfold rdSum
  by_cases hc : code ≠ 0
  · exact .inl ⟨code, by rw [if_pos hc], by simpa using hc⟩
  · rw [if_neg hc]
    by_cases hn : n < pl + 8
    · exact .inl ⟨11, by rw [if_pos hn], by decide⟩
    · rw [if_neg hn]
      have hb := val_bd _ (piece_by pl 8 hby)
      rw [piece_len bs n pl 8 hl (by omega)] at hb
      have e : (256 : Int) ^ 8 = 18446744073709551616 := by decide
      refine .inr ⟨_, rfl, by omega, hb.1, by omega, ?_⟩
      rw [be_piece bs n pl 8 hl (by omega) hby, take_piece]

theorem flag_cases (n : Nat) (bs : List Int) (pl : Nat) (code : Int) (hl : bs.length = n) (hby : ∀ x ∈ bs, 0 ≤ x ∧ x ≤ 255) (_hp : pl ≤ n) :
    (∃ c, rdFlag n bs pl code = (false, pl, c) ∧ (c == 0) = false) ∨
    (∃ x : Bool, rdFlag n bs pl code = (x, pl + 4, 0) ∧ pl + 4 ≤ n ∧ bs.take pl ++ be (IntKind.u64.wrap (if x then 1 else 0)) 4 = bs.take (pl + 4)) := by
  unfold rdFlag
  by_cases hc : code ≠ 0
  · exact .inl ⟨code, by rw [if_pos hc], by simpa using hc⟩
  · rw [if_neg hc]
    by_cases hn : n < pl + 4
    · exact .inl ⟨11, by rw [if_pos hn], by decide⟩
    · rw [if_neg hn]
      by_cases hv : 1 < val ((bs.drop pl).take 4)
      · rw [if_pos hv]; exact .inl ⟨13, rfl, by decide⟩
      · rw [if_neg hv]
        have hb := val_bd _ (piece_by pl 4 hby)
        refine .inr ⟨_, rfl, by omega, ?_⟩
        have e : (if (val ((bs.drop pl).take 4) == 1) = true then (1 : Int) else 0) = val ((bs.drop pl).take 4) := by
          by_cases h1 : val ((bs.drop pl).take 4) = 1
          · simp [h1]
          · simp [h1]; omega
        rw [e, wrap_small _ hb.1 (by omega), be_piece bs n pl 4 hl (by omega) hby, take_piece]

theorem zeros_of (l : List Int) (k : Nat) (hl : l.length = k) (h : ∀ t, t < k → l.getD t 0 = 0) : l = List.replicate k 0 := by
  apply List.ext_getElem
  · simp [hl]
  · intro i h1 h2
    have := h i (by omega)
    simp [List.getD, h1] at this
    simpa using this

theorem text_cases (n : Nat) (bs : List Int) (pl : Nat) (code : Int) (hl : bs.length = n) (hby : ∀ x ∈ bs, 0 ≤ x ∧ x ≤ 255) (_hp : pl ≤ n) :
    (∃ c, rdText n bs pl code 9223372036854775807 = ([], pl, c) ∧ (c == 0) = false) ∨
    (∃ L, rdText n bs pl code 9223372036854775807 = (L, pl + (4 + L.length + padN L.length), 0) ∧ pl + (4 + L.length + padN L.length) ≤ n ∧ (∀ x ∈ L, 0 ≤ x ∧ x ≤ 255) ∧
      bs.take pl ++ (be L.length 4 ++ L ++ List.replicate (padN L.length) 0) = bs.take (pl + (4 + L.length + padN L.length))) := by
  have hv := val4_lt bs pl hby
  unfold rdText
  by_cases hc : code ≠ 0
  · exact .inl ⟨code, by rw [if_pos hc], by simpa using hc⟩
  · rw [if_neg hc]
    by_cases hn : n < pl + 4
    · exact .inl ⟨11, by rw [if_pos hn], by decide⟩
    · rw [if_neg hn]
      by_cases hw : (9223372036854775807 : Int) < 0 ∨ 9223372036854775807 < val ((bs.drop pl).take 4)
      · rw [if_pos hw]; exact .inl ⟨14, rfl, by decide⟩
      · rw [if_neg hw]
        have e4 := be_piece bs n pl 4 hl (by omega) hby
        obtain ⟨k, hk⟩ := Int.eq_ofNat_of_zero_le hv.1
        rw [hk] at e4 ⊢
        simp only [Int.toNat_natCast]
        by_cases h3 : n < pl + (4 + k + padN k)
        · rw [if_pos h3]; exact .inl ⟨11, rfl, by decide⟩
        · rw [if_neg h3]
          by_cases h4 : ∀ t, t < padN k → bs.getD (pl + (4 + k) + t) 0 = 0
          · rw [if_neg (fun h => h h4)]
            have hL := piece_len bs n (pl + 4) k hl (by omega)
            refine .inr ⟨(bs.drop (pl + 4)).take k, ?_, ?_, piece_by _ _ hby, ?_⟩
            · rw [hL]
            · rw [hL]; omega
            · rw [hL, e4]
              have hz : (bs.drop (pl + (4 + k))).take (padN k) = List.replicate (padN k) 0 :=
                zeros_of _ _ (piece_len bs n (pl + (4 + k)) (padN k) hl (by omega)) (fun t ht => by
                  have := h4 t ht
                  simpa [List.getD, List.getElem?_take, ht] using this)
              rw [← hz, ← List.append_assoc, ← List.append_assoc, take_piece, take_piece, show pl + 4 + k = pl + (4 + k) by omega, take_piece]
              congr 1; omega
          · rw [if_pos h4]; exact .inl ⟨15, rfl, by decide⟩
end Go.Proofs.YtjpaooejkbkliaaDoor
