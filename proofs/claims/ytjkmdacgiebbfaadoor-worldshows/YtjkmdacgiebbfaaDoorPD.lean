/- play.isBareWord, play.Text. -/
import Derived.Test.YtjkmdacgiebbfaaDoorPC
import Derived.LoopTactic
namespace Go.Proofs.YtjkmdacgiebbfaaDoor
open Go.RowKit
set_option maxRecDepth 100000

set_option maxHeartbeats 1000000 in
theorem isBareWord_any (s : ByteArray) (w : World) (hs : s.size ≤ 140737488351232) : Calls Tryd.prog 20 #[.string s] w fun e w' => e = .returned (.bool (bareW (bs s))) ∧ w' = w := by
  have hsi : (s.size : Int) ≤ 140737488351232 := by omega
  go_enter Tryd.func20, Tryd.ntmps20
  go_wp2_with fail
  go_loopw [3, 6] (fun i k wr => ∃ q : Nat, q ≤ s.size ∧ k = .int .i64 q ∧ wr = w ∧ ((bs s).take q).all bareB = true) (fun _ k _ => s.size - (intOf k).toNat)
  case atStart => exact ⟨0, Nat.zero_le _, rfl, rfl, by simp⟩
  case round =>
    obtain ⟨q, hq, rfl, rfl, hA⟩ := hrel
    have HA : Hid (((bs s).take q).all bareB = true) := hA
    clear hA
    by_cases hlt : q < s.size
    · obtain ⟨b, hb⟩ : ∃ b, s[q]'hlt = b := ⟨_, rfl⟩
      have hT := bs_take s q hlt
      rw [hb] at hT
      have hP := isBare_any (b.toNat : Int) wr
      rw [bareR_byte] at hP
      have hb0 : 0 ≤ (b.toNat : Int) := by omega
      have hb1 : (b.toNat : Int) ≤ 255 := by have := b.toNat_lt; omega
      have HT : Hid ((bs s).take (q + 1) = (bs s).take q ++ [b]) := hT
      clear hT
      go_wp2_with fail
      refine hP.mono ?_
      rintro e w1 ⟨rfl, hw1⟩
      subst w1
      clear hP
      by_cases hp : bareB b = true
      · rw [hp]
        go_wp2_with fail
        go_roundw
        case rel => exact ⟨q + 1, by omega, by go_num, by simp, by rw [HT.out, List.all_append, HA.out]; simpa using hp⟩
        case measure => simp [intOf]; omega
      · have hp' : bareB b = false := by simpa using hp
        rw [hp']
        go_wp2_with fail
        go_ret
        refine ⟨?_, rfl⟩
        have : bareW (bs s) = false := by
          unfold bareW
          rw [Bool.and_eq_false_iff]
          right
          rw [List.all_eq_false]
          refine ⟨b, ?_, by simpa using hp⟩
          rw [← hb, ← bs_at s q hlt]
          exact List.getElem_mem _
        rw [this]; rfl
    · obtain rfl : q = s.size := by omega
      have hA : (bs s).all bareB = true := by
        have := HA.out
        rwa [List.take_of_length_le (by rw [size_bs]; exact Nat.le_refl _)] at this
      have hw : bareW (bs s) = !(bs s).isEmpty := by unfold bareW; rw [hA, Bool.and_true]
      have HW : Hid (bareW (bs s) = !(bs s).isEmpty) := hw
      clear hw hA HA
      go_wp2_with fail
      go_ret
      refine ⟨?_, rfl⟩
      rw [HW.out, ← show s.toList = bs s from ByteArray.toList_eq s]
      rfl

/-- A text in its own words: how long it is. -/
theorem quote_len (b : UInt8) : (quoteB b).length ≤ 4 := by
  unfold quoteB; split
  · simp
  · split <;> simp
theorem quotes_len (l : By) : (l.flatMap quoteB).length ≤ 4 * l.length := by
  induction l with
  | nil => simp
  | cons b l ih =>
    have := quote_len b
    simp only [List.flatMap_cons, List.length_append, List.length_cons]
    omega
theorem cell_one_new (w : World) (x : Value) (t : TypeId) : ∀ j u, [x][j]? = some u → (w.alloc (.cells #[x] t)).cell? ((⟨w.heap.size, 0, none⟩ : Addr).add j) = some u := World.news_of_block (heap_alloc_new _ _)
end Go.Proofs.YtjkmdacgiebbfaaDoor
