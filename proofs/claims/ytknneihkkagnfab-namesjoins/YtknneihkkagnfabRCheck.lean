/- annexref3.Check: it answers as checkN says, too. -/
import Derived.Test.YtknneihkkagnfabFirst
namespace Go.Proofs.Ytknneihkkagnfab
open Go.RowKit
set_option maxRecDepth 100000

theorem byte_at {s : ByteArray} {k : Nat} (hk : k < s.size) (h : (s[k]'hk).toNat = 47 ∨ (s[k]'hk).toNat = 0) : plain (bs s) = false := by
  have hk' : k < (bs s).length := by rw [← size_bs]; exact hk
  have he : (bs s)[k] = s[k]'hk := by simp [ByteArray.getElem_eq_getElem_data]
  have hm : s[k]'hk ∈ bs s := by rw [← he]; exact List.getElem_mem hk'
  rcases Bool.eq_false_or_eq_true (plain (bs s)) with ho | ho
  · simp only [plain, List.all_eq_true] at ho
    have := ho _ hm
    simp only [Bool.and_eq_true, bne_iff_ne, ne_eq] at this
    rcases h with h | h
    · exact absurd (UInt8.toNat_inj.1 h) this.1
    · exact absurd (UInt8.toNat_inj.1 h) this.2
  · exact ho
theorem PlainTo.next {s : ByteArray} {k : Nat} (h : PlainTo s k) (hk : k < s.size) (h1 : ¬ (s[k]'hk).toNat = 47) (h2 : ¬ (s[k]'hk).toNat = 0) : PlainTo s (k + 1) := by
  intro j hj hlt
  by_cases hl : j < k
  · exact h j hj hl
  · obtain rfl : j = k := by omega
    exact ⟨h1, h2⟩

set_option maxHeartbeats 1000000 in
theorem rcheck_any (s : ByteArray) (w : World) :
    Calls Try.prog 28 #[.string s] w fun e w' => e = .returned (.int .i64 (checkN (bs s))) ∧ w' = w := by
  go_enter Try.func28, Try.ntmps28
  by_cases h1 : s.toList = []
  · have hsz : s.size = 0 := by rw [ByteArray.toList_eq] at h1; rw [size_bs, show bs s = [] from h1]; rfl
    have h1i : (s.size : Int) < 1 := by omega
    go_wp2
    go_ret
    exact ⟨by rw [check_bad (Or.inl h1)]; rfl, rfl⟩
  have hsz : 0 < s.size := by
    rw [ByteArray.toList_eq] at h1
    rw [size_bs]; exact List.length_pos_iff.2 h1
  have h1i : ¬ (s.size : Int) < 1 := by omega
  by_cases h2 : (23 : Int) < s.size
  · go_wp2
    go_ret
    exact ⟨by rw [check_bad (Or.inr (Or.inl h2))]; rfl, rfl⟩
  have h2' : (s.size : Int) ≤ 23 := by omega
  by_cases h3 : s.toList = [46]
  · go_wp2
    go_ret
    exact ⟨by rw [check_bad (Or.inr (Or.inr (Or.inl h3)))]; rfl, rfl⟩
  by_cases h4 : s.toList = [46, 46]
  · go_wp2
    go_ret
    exact ⟨by rw [check_bad (Or.inr (Or.inr (Or.inr h4)))]; rfl, rfl⟩
  have i3 : (s.toList == [46]) = false := by simpa using h3
  have i4 : (s.toList == [46, 46]) = false := by simpa using h4
  go_wp2
  go_loopw [3] (fun i wr => ∃ k : Nat, k ≤ s.size ∧ i = .int .i64 k ∧ wr = w ∧ PlainTo s k) (fun i _ => s.size - (intOf i).toNat)
  case atStart => exact ⟨0, Nat.zero_le _, rfl, rfl, fun k _ h => by omega⟩
  case round =>
    obtain ⟨k, hk, rfl, rfl, hpl⟩ := hrel
    have HP : Hid (PlainTo s k) := ⟨hpl⟩
    clear hpl
    by_cases hlt : k < s.size
    · by_cases e1 : (s[k]'hlt).toNat = 47
      · have hck := byte_at hlt (Or.inl e1)
        go_wp2
        go_ret
        exact ⟨by rw [check_plain h1 h2' h3 h4, hck]; rfl, rfl⟩
      by_cases e2 : (s[k]'hlt).toNat = 0
      · have hck := byte_at hlt (Or.inr e2)
        go_wp2
        go_ret
        exact ⟨by rw [check_plain h1 h2' h3 h4, hck]; rfl, rfl⟩
      · have e1' : (((s[k]'hlt).toNat : Int) == 47) = false := by simp; omega
        have e2' : (((s[k]'hlt).toNat : Int) == 0) = false := by simp; omega
        go_wp2
        go_roundw
        case rel => exact ⟨k + 1, by omega, by go_num, by simp, HP.out.next hlt e1 e2⟩
        case measure => simp [intOf]; omega
    · go_wp2
      go_ret
      exact ⟨by rw [check_plain h1 h2' h3 h4, HP.out.all hlt]; rfl, rfl⟩
end Go.Proofs.Ytknneihkkagnfab
