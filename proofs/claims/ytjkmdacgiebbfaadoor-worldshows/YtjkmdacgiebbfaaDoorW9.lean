/- The document's asked, number, callErr. -/
import Derived.Test.YtjkmdacgiebbfaaDoorW8
namespace Go.Proofs.YtjkmdacgiebbfaaDoor
open Go.RowKit Go.Sort
set_option maxRecDepth 100000

set_option maxHeartbeats 1000000 in
theorem asked_any (s : ByteArray) (x : UInt8) (w : World) (hs : s.size ≤ 1000) : Calls Tryd.prog 46 #[.string s, ub x] w fun e w' => e = .returned (.bool ((bs s).contains x)) ∧ w' = w := by
  have hsi : (s.size : Int) ≤ 1000 := by omega
  go_enter Tryd.func46, Tryd.ntmps46
  go_wp2_with fail
  go_loopw [5] (fun k wr => ∃ q : Nat, q ≤ s.size ∧ k = .int .i64 q ∧ wr = w ∧ x ∉ (bs s).take q) (fun k _ => s.size - (intOf k).toNat)
  case atStart => exact ⟨0, Nat.zero_le _, rfl, rfl, by simp⟩
  case round =>
    obtain ⟨q, hq, rfl, rfl, hA⟩ := hrel
    have HA := Lib.hid hA
    clear hA
    by_cases hlt : q < s.size
    · obtain ⟨b, hb⟩ : ∃ b, s[q]'hlt = b := ⟨_, rfl⟩
      have HT := Lib.hid (hb ▸ bs_take s q hlt)
      have HM := Lib.hid (hb ▸ bs_mem s q hlt)
      by_cases he : b = x
      · subst he
        go_wp2_with fail
        go_ret
        refine ⟨?_, rfl⟩
        rw [List.contains_iff_mem.2 HM.out]
        rfl
      · have hne : ((b.toNat : Int) == (x.toNat : Int)) = false := by
          rw [beq_eq_false_iff_ne]
          intro h
          exact he (UInt8.toNat_inj.1 (by omega))
        go_wp2_with fail
        go_roundw
        case rel => exact ⟨q + 1, by omega, by go_num, by simp, by rw [HT.out, List.mem_append, List.mem_singleton]; exact fun h => h.elim HA.out (fun h => he h.symm)⟩
        case measure => simp [intOf]; omega
    · obtain rfl : q = s.size := by omega
      have hA := HA.out
      rw [List.take_of_length_le (by rw [size_bs]; exact Nat.le_refl _)] at hA
      have hc : (bs s).contains x = false := by
        rw [Bool.eq_false_iff]
        exact fun h => hA (List.contains_iff_mem.1 h)
      have HC := Lib.hid hc
      clear hc hA
      go_wp2_with fail
      go_ret
      exact ⟨by rw [HC.out]; rfl, rfl⟩

theorem rnumber_any (n : Int) (w : World) : Calls Tryd.prog 47 #[.int .i64 n] w fun e w' => e = .returned (.bool (okN n)) ∧ w' = w := by
  by_cases h1 : 0 ≤ n
  · by_cases h2 : n ≤ 1073741824
    · have ho : okN n = true := by simp [okN, h1, h2]
      rw [ho]
      go_enter Tryd.func47, Tryd.ntmps47
      go_wp2
      go_ret
      exact ⟨rfl, rfl⟩
    · have ho : okN n = false := by simp [okN, h2]
      rw [ho]
      go_enter Tryd.func47, Tryd.ntmps47
      go_wp2
      go_ret
      exact ⟨rfl, rfl⟩
  · have ho : okN n = false := by simp [okN, h1]
    rw [ho]
    go_enter Tryd.func47, Tryd.ntmps47
    go_wp2
    go_ret
    exact ⟨rfl, rfl⟩

/-- The document's letters. -/
def docOf (op : Int) : By := if op = 1 then [112] else if op = 2 then [104] else if op = 3 then [104, 111, 108] else if op = 4 then [104, 111, 100] else if op = 5 ∨ op = 6 ∨ op = 7 ∨ op = 8 then [104, 110] else if op = 9 then [104, 110, 103, 109] else if op = 10 then [104, 110, 108] else []
def docK (x : UInt8) : Nat := if x = 104 then 1 else if x = 103 then 2 else if x = 111 then 3 else if x = 108 then 4 else if x = 112 then 5 else if x = 110 then 6 else if x = 109 then 7 else 8
theorem docs_ok (op : Int) (h : 1 ≤ op ∧ op ≤ 10) : (docOf op).map docK = formOf op ∧ (docOf op).all (fun x => x == 104 || x == 103 || x == 111 || x == 108 || x == 112 || x == 110 || x == 109 || x == 100) = true := by
  rcases op_cases h with rfl | rfl | rfl | rfl | rfl | rfl | rfl | rfl | rfl | rfl <;> decide
/-- What is left, seen by the document: field by field. -/
def Cl.part (c : Cl) (op : Int) : Bool := !(((docOf op).contains 112 || c.path.size == 0)) || (!(((docOf op).contains 110 || c.name.size == 0)) || (!(((docOf op).contains 109 || c.name2.size == 0)) || (!(((docOf op).contains 100 || c.dl.length == 0)) || (!(((docOf op).contains 104 || c.h == 0)) || (!(((docOf op).contains 103 || c.h2 == 0)) || (!(((docOf op).contains 111 || c.off == 0)) || !(((docOf op).contains 108 || c.len == 0))))))))
def Cl.nums (c : Cl) : Bool := !okN c.h || (!okN c.h2 || (!okN c.off || !okN c.len))
theorem okN0 : okN 0 = true := by decide
theorem pick_int (p : Prop) [Decidable p] (x : Int) : ((if p then 0 else x) != 0) = !(decide p || x == 0) := by
  by_cases h : p <;> simp [h, bne]
theorem sum_pos (a b c d : Nat) : decide (0 < a + b + c + d) = (!(a == 0) || (!(b == 0) || (!(c == 0) || !(d == 0)))) := by
  rw [Bool.eq_iff_iff]
  simp only [Bool.or_eq_true, Bool.not_eq_true', beq_eq_false_iff_ne, decide_eq_true_eq]
  omega
theorem pick_size (p : Prop) [Decidable p] (x : ByteArray) : ((if p then ⟨#[]⟩ else x : ByteArray).size == 0) = (decide p || x.size == 0) := by
  by_cases h : p
  · simp only [h, if_true, decide_true, Bool.true_or]; rfl
  · simp only [h, if_false, decide_false, Bool.false_or]
theorem pick_list (p : Prop) [Decidable p] (x : By) : ((if p then [] else x : By).length == 0) = (decide p || x.length == 0) := by
  by_cases h : p
  · simp only [h, if_true, decide_true, Bool.true_or]; rfl
  · simp only [h, if_false, decide_false, Bool.false_or]
theorem eight (a b c d e f g h : Bool) : (!e || (!f || (!g || (!h || (!a || (!b || (!c || !d))))))) = (!a || (!b || (!c || (!d || (!e || (!f || (!g || !h))))))) := by
  revert a b c d e f g h; decide
theorem left_clear (c : Cl) (ks : List Nat) : (c.clear ks).left = (!(decide (5 ∈ ks) || c.path.size == 0) || (!(decide (6 ∈ ks) || c.name.size == 0) || (!(decide (7 ∈ ks) || c.name2.size == 0) || (!(decide (8 ∈ ks) || c.dl.length == 0) || (!(decide (1 ∈ ks) || c.h == 0) || (!(decide (2 ∈ ks) || c.h2 == 0) || (!(decide (3 ∈ ks) || c.off == 0) || !(decide (4 ∈ ks) || c.len == 0)))))))) := by
  rw [eight]
  unfold Cl.left Cl.bytes Cl.clear
  simp only [pick_int, sum_pos, pick_size, pick_list]
theorem doc_has (op : Int) (h : 1 ≤ op ∧ op ≤ 10) : (docOf op).contains 112 = decide (5 ∈ formOf op) ∧ (docOf op).contains 110 = decide (6 ∈ formOf op) ∧ (docOf op).contains 109 = decide (7 ∈ formOf op) ∧ (docOf op).contains 100 = decide (8 ∈ formOf op) ∧ (docOf op).contains 104 = decide (1 ∈ formOf op) ∧ (docOf op).contains 103 = decide (2 ∈ formOf op) ∧ (docOf op).contains 111 = decide (3 ∈ formOf op) ∧ (docOf op).contains 108 = decide (4 ∈ formOf op) := by
  rcases op_cases h with rfl | rfl | rfl | rfl | rfl | rfl | rfl | rfl | rfl | rfl <;> decide
theorem part_eq (c : Cl) (op : Int) (h : 1 ≤ op ∧ op ≤ 10) : c.part op = (c.clear (formOf op)).left := by
  obtain ⟨h1, h2, h3, h4, h5, h6, h7, h8⟩ := doc_has op h
  rw [left_clear]
  unfold Cl.part
  rw [h1, h2, h3, h4, h5, h6, h7, h8]
theorem nums_eq (c : Cl) (ks : List Nat) (hl : (c.clear ks).left = false) : c.nums = c.bad ks := by
  rw [left_clear] at hl
  simp only [Bool.or_eq_false_iff, Bool.not_eq_false', Bool.or_eq_true, decide_eq_true_eq, beq_iff_eq] at hl
  obtain ⟨_, _, _, _, h1, h2, h3, h4⟩ := hl
  have hz : ∀ k, k ∉ ks → c.numK k = 0 := by
    intro k hk
    unfold Cl.numK
    split
    · exact h1.resolve_left hk
    · exact h2.resolve_left hk
    · exact h3.resolve_left hk
    · exact h4.resolve_left hk
    · rfl
  have hb : ∀ k, k ≤ 4 → okN (c.numK k) = false → c.bad ks = true := by
    intro k h4' hk
    refine bad_of (k := k) (Classical.byContradiction fun hn => ?_) (by simp [h4', hk])
    rw [hz k hn, okN0] at hk
    cases hk
  rw [Bool.eq_iff_iff]
  constructor
  · intro h
    simp only [Cl.nums, Bool.or_eq_true, Bool.not_eq_true'] at h
    rcases h with h | h | h | h
    · exact hb 1 (by decide) h
    · exact hb 2 (by decide) h
    · exact hb 3 (by decide) h
    · exact hb 4 (by decide) h
  · intro h
    obtain ⟨k, _, hk⟩ := List.any_eq_true.1 h
    simp only [Bool.and_eq_true, decide_eq_true_eq, Bool.not_eq_true'] at hk
    obtain ⟨_, hk⟩ := hk
    simp only [Cl.nums, Bool.or_eq_true, Bool.not_eq_true']
    unfold Cl.numK at hk
    split at hk
    · exact .inl hk
    · exact .inr (.inl hk)
    · exact .inr (.inr (.inl hk))
    · exact .inr (.inr (.inr hk))
    · rw [okN0] at hk; cases hk
end Go.Proofs.YtjkmdacgiebbfaaDoor
