/- names.Check: it answers as checkN says, whatever the text; what lay stands. -/
import Derived.Test.YtknneihkkagnfaaMath
import Derived.WalkKit
import Derived.WalkSpells
import Derived.WalkLawsBesides
import Derived.BigQuiet
import Derived.Deep.QuietTactic
import Derived.OpenShut
import Derived.Laws.BitsAllLaws
import Derived.Laws.RangeAny
import Derived.LoopTactic
namespace Go.Proofs.Ytknneihkkagnfaa
open Go.RowKit
set_option maxRecDepth 100000

/-- Behind a byte of 128 or more the whole rune's bytes are such. -/
theorem decode_run (s : ByteArray) (pos : Nat) (h : pos < s.size) (hb : 128 ≤ (s[pos]'h).toNat) (k : Nat) (hk : k < (Utf8.decode s pos).2) : ∃ h' : pos + k < s.size, 128 ≤ (s[pos + k]'h').toNat := by
  cases k with
  | zero => exact ⟨h, hb⟩
  | succ k =>
    have hg : ∀ j (hj : pos + j < s.size), s.get! (pos + j) = s[pos + j]'hj := fun j hj => by
      show s.get! (pos + j) = _
      simp [ByteArray.get!, getElem!_pos, hj]
      rfl
    have hc : ∀ j, (decide (pos + j < s.size) && (s.get! (pos + j)).toNat / 64 == 2) = true → ∃ h' : pos + j < s.size, 128 ≤ (s[pos + j]'h').toNat := by
      intro j hj
      simp only [Bool.and_eq_true, decide_eq_true_eq, beq_iff_eq] at hj
      refine ⟨hj.1, ?_⟩
      have := hj.2
      rw [hg j hj.1] at this
      omega
    have hn : ¬ (s[pos]'h).toNat < 128 := by omega
    simp only [Utf8.decode, get_at s pos h, hn, if_false] at hk
    split at hk
    · rename_i h1
      simp only [Bool.and_eq_true] at h1
      have h1' := hc 1 (by simpa using h1.2)
      split at hk
      · have : k = 0 := by simp at hk; omega
        subst this; exact h1'
      · simp at hk
    · split at hk
      · rename_i h1
        simp only [Bool.and_eq_true] at h1
        have h1' := hc 1 (by simpa using h1.1.2)
        have h2' := hc 2 (by simpa using h1.2)
        split at hk
        · have : k = 0 ∨ k = 1 := by simp at hk; omega
          rcases this with rfl | rfl
          · exact h1'
          · exact h2'
        · simp at hk
      · split at hk
        · rename_i h1
          simp only [Bool.and_eq_true] at h1
          have h1' := hc 1 (by simpa using h1.1.1.2)
          have h2' := hc 2 (by simpa using h1.1.2)
          have h3' := hc 3 (by simpa using h1.2)
          split at hk
          · have : k = 0 ∨ k = 1 ∨ k = 2 := by simp at hk; omega
            rcases this with rfl | rfl | rfl
            · exact h1'
            · exact h2'
            · exact h3'
          · simp at hk
        · simp at hk

theorem width_pos (s : ByteArray) (pos : Nat) (h : pos < s.size) : 1 ≤ (Utf8.decode s pos).2 := by
  by_cases ha : (s[pos]'h).toNat < 128
  · rw [decode_ascii s pos h ha]
    exact Nat.le_refl _
  · exact (decode_high s pos h (by omega)).2

/-- All bytes below pos are neither a slash nor 0. -/
def PlainTo (s : ByteArray) (pos : Nat) : Prop := ∀ k (h : k < s.size), k < pos → (s[k]'h).toNat ≠ 47 ∧ (s[k]'h).toNat ≠ 0
theorem PlainTo.step {s : ByteArray} {pos : Nat} (h : PlainTo s pos) (hp : pos < s.size) (h1 : (Utf8.decode s pos).1 ≠ 47) (h2 : (Utf8.decode s pos).1 ≠ 0) : PlainTo s (pos + (Utf8.decode s pos).2) := by
  intro k hk hlt
  by_cases hl : k < pos
  · exact h k hk hl
  · by_cases ha : (s[pos]'hp).toNat < 128
    · rw [decode_ascii s pos hp ha] at hlt h1 h2
      obtain rfl : k = pos := by simp at hlt; omega
      exact ⟨h1, h2⟩
    · obtain ⟨j, rfl⟩ : ∃ j, k = pos + j := ⟨k - pos, by omega⟩
      obtain ⟨_, h3⟩ := decode_run s pos hp (by omega) j (by omega)
      omega
theorem PlainTo.all {s : ByteArray} {pos : Nat} (h : PlainTo s pos) (hp : ¬ pos < s.size) : plain (bs s) = true := by
  unfold plain
  rw [List.all_eq_true]
  intro b hb
  obtain ⟨k, hk, rfl⟩ := List.mem_iff_getElem.1 hb
  have hk' : k < s.size := by rw [size_bs]; exact hk
  have := h k hk' (by omega)
  have he : (bs s)[k] = s[k]'hk' := by simp [ByteArray.getElem_eq_getElem_data]
  rw [he]
  simp only [Bool.and_eq_true, bne_iff_ne, ne_eq]
  exact ⟨fun e => this.1 (by rw [e]; rfl), fun e => this.2 (by rw [e]; rfl)⟩
theorem notPlain {s : ByteArray} {pos : Nat} (hp : pos < s.size) (h : (Utf8.decode s pos).1 = 47 ∨ (Utf8.decode s pos).1 = 0) : plain (bs s) = false := by
  have ha : (s[pos]'hp).toNat < 128 := by
    by_cases ha : (s[pos]'hp).toNat < 128
    · exact ha
    · have := (decode_high s pos hp (by omega)).1
      omega
  rw [decode_ascii s pos hp ha] at h
  simp only at h
  have hk : pos < (bs s).length := by rw [← size_bs]; exact hp
  have he : (bs s)[pos] = s[pos]'hp := by simp [ByteArray.getElem_eq_getElem_data]
  have hm : s[pos]'hp ∈ bs s := by rw [← he]; exact List.getElem_mem hk
  rcases Bool.eq_false_or_eq_true (plain (bs s)) with hpl | hpl
  · unfold plain at hpl
    rw [List.all_eq_true] at hpl
    have := hpl _ hm
    simp only [Bool.and_eq_true, bne_iff_ne, ne_eq] at this
    rcases h with h | h
    · exact absurd (UInt8.toNat_inj.1 h) this.1
    · exact absurd (UInt8.toNat_inj.1 h) this.2
  · exact hpl

theorem check_bad {s : ByteArray} (h : s.toList = [] ∨ (23 : Int) < s.size ∨ s.toList = [46] ∨ s.toList = [46, 46]) : checkN (bs s) = 31 := by
  unfold checkN
  rw [if_neg]
  intro hk
  have hl := okName_len hk
  rw [← size_bs] at hl
  rw [ByteArray.toList_eq] at h
  rcases h with h | h | h | h
  · have : (bs s).length = 0 := by rw [show bs s = [] from h]; rfl
    rw [← size_bs] at this; omega
  · omega
  · rw [show bs s = [46] from h] at hk; exact absurd hk (by decide)
  · rw [show bs s = [46, 46] from h] at hk; exact absurd hk (by decide)
theorem check_plain {s : ByteArray} (h1 : ¬ s.toList = []) (h2 : (s.size : Int) ≤ 23) (h3 : ¬ s.toList = [46]) (h4 : ¬ s.toList = [46, 46]) : checkN (bs s) = if plain (bs s) = true then 0 else 31 := by
  rw [ByteArray.toList_eq] at h1 h3 h4
  have e : okName (bs s) = plain (bs s) := by
    unfold okName
    have h2' : ¬ 23 < (bs s).length := by rw [← size_bs]; omega
    have i1 : (bs s).isEmpty = false := by cases h : bs s with | nil => exact absurd h h1 | cons => rfl
    have i3 : (bs s == [46]) = false := by simpa using h3
    have i4 : (bs s == [46, 46]) = false := by simpa using h4
    rw [i1, i3, i4]
    simp
    intro _; omega
  unfold checkN
  rw [e]

set_option maxHeartbeats 1000000 in
theorem check_any (s : ByteArray) (w : World) :
    Calls Try.prog 11 #[.string s] w fun e w' => e = .returned (.int .i64 (checkN (bs s))) ∧ Below w.heap.size w w' := by
  go_enter Try.func11, Try.ntmps11
  by_cases h1 : s.toList = []
  · go_wp2
    go_ret
    exact ⟨by rw [check_bad (Or.inl h1)]; rfl, Below.refl _ _⟩
  by_cases h2 : (23 : Int) < s.size
  · go_wp2
    go_ret
    exact ⟨by rw [check_bad (Or.inr (Or.inl h2))]; rfl, Below.refl _ _⟩
  by_cases h3 : s.toList = [46]
  · have h2' : (s.size : Int) ≤ 23 := by omega
    go_wp2
    go_ret
    exact ⟨by rw [check_bad (Or.inr (Or.inr (Or.inl h3)))]; rfl, Below.refl _ _⟩
  by_cases h4 : s.toList = [46, 46]
  · have h2' : (s.size : Int) ≤ 23 := by omega
    go_wp2
    go_ret
    exact ⟨by rw [check_bad (Or.inr (Or.inr (Or.inr h4)))]; rfl, Below.refl _ _⟩
  have h2' : (s.size : Int) ≤ 23 := by omega
  have i1 : s.toList.isEmpty = false := by cases h : s.toList with | nil => exact absurd h h1 | cons => rfl
  have i3 : (s.toList == [46]) = false := by simpa using h3
  have i4 : (s.toList == [46, 46]) = false := by simpa using h4
  go_wp2
  go_loopw [] (fun w' => ∃ pos : Nat, w' = w.iter s pos ∧ PlainTo s pos) (fun w' => s.size - w'.iterPos w.heap.size)
  case atStart => exact ⟨0, rfl, fun k _ h => by omega⟩
  case round =>
    obtain ⟨pos, rfl, hpl⟩ := hrel
    by_cases hlt : pos < s.size
    · have hnx : ∀ ty, (Instr.next (.pointer (some ⟨w.heap.size, 0, none⟩)) true ty).run Try.prog (w.iter s pos) = _ := fun ty => run_next_any w s pos ty hlt
      have hwd := width_pos s pos hlt
      by_cases e1 : (Utf8.decode s pos).1 = 47
      · have hn := notPlain hlt (Or.inl e1)
        have e1' : ((Utf8.decode s pos).1 : Int) = 47 := by omega
        go_wp2
        go_ret
        exact ⟨by rw [check_plain h1 h2' h3 h4, hn]; rfl, (Below.refl _ w).alloc (Nat.le_refl _) _⟩
      by_cases e2 : (Utf8.decode s pos).1 = 0
      · have hn := notPlain hlt (Or.inr e2)
        have e1' : ¬ ((Utf8.decode s pos).1 : Int) = 47 := by omega
        have e2' : ((Utf8.decode s pos).1 : Int) = 0 := by omega
        go_wp2
        go_ret
        exact ⟨by rw [check_plain h1 h2' h3 h4, hn]; rfl, (Below.refl _ w).alloc (Nat.le_refl _) _⟩
      have e1' : (((Utf8.decode s pos).1 : Int) == 47) = false := by simp; omega
      have e2' : (((Utf8.decode s pos).1 : Int) == 0) = false := by simp; omega
      go_wp2
      exact ⟨⟨_, rfl, hpl.step hlt e1 e2⟩, by simp; omega⟩
    · have hnx : ∀ ty, (Instr.next (.pointer (some ⟨w.heap.size, 0, none⟩)) true ty).run Try.prog (w.iter s pos) = _ := fun ty => run_next_end w s pos ty hlt
      go_wp2
      go_ret
      exact ⟨by rw [check_plain h1 h2' h3 h4, hpl.all hlt]; rfl, (Below.refl _ w).alloc (Nat.le_refl _) _⟩
end Go.Proofs.Ytknneihkkagnfaa
