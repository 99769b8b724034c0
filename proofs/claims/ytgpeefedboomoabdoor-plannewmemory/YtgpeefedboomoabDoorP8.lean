/- begins, summed, said by their contracts. -/
import Derived.Test.YtgpeefedboomoabDoorP7
namespace Go.Proofs.YtgpeefedboomoabDoor
open Go.RowKit
set_option maxRecDepth 100000

theorem txt_magic (l : List Int) (h : ∀ x ∈ l, 0 ≤ x ∧ x ≤ 255) : ((txt l).toList == [65, 78, 88, 83]) = decide (l = [65, 78, 88, 83]) := by
  by_cases e : l = [65, 78, 88, 83]
  · subst e
    rw [decide_eq_true rfl, ByteArray.toList_eq]
    rfl
  · rw [decide_eq_false e]
    have : ¬ (txt l).toList = [65, 78, 88, 83] := fun he => e (by
      have h2 := nums_txt l h
      rw [← h2]
      have h3 : (txt l).data.toList = [65, 78, 88, 83] := by rw [← ByteArray.toList_eq]; exact he
      simp only [nums, h3]
      rfl)
    simpa using this

set_option maxHeartbeats 1000000 in
theorem begins_any (b o c : Nat) (bs : List Int) (w : World) (hL : Lies w (some ⟨b, o, none⟩) 512 c bs) (hby : ∀ x ∈ bs, 0 ≤ x ∧ x ≤ 255) :
    Calls Tryd.prog 33 #[.slice (some ⟨b, o, none⟩) 512 c] w fun e w' => e = .returned (.bool (decide (bs.take 4 = [65, 78, 88, 83]))) ∧ w' = w := by
  have hc := hL.hle
  have hci : (512 : Int) ≤ c := by omega
  have hL4 : Lies w (some ⟨b, o, none⟩) 4 c (bs.take 4) := hL.piece 0 4 c (by omega) (by omega)
  have hcv := run_string_of w ⟨b, o, none⟩ 4 c (bs.take 4) hL4
  have HB : Hid (∀ x ∈ bs.take 4, 0 ≤ x ∧ x ≤ 255) := fun x hx => hby x (List.mem_of_mem_take hx)
  clear hL4 hby hL
  generalize bs.take 4 = l at *
  go_enter Tryd.func33, Tryd.ntmps33
  go_wp2
  go_ret
  exact ⟨by rw [← txt_magic l HB.out]; rfl, rfl⟩

theorem sum_eight (rb g : Nat) (l : List Int) (w : World) (hl : l.length = 8) (hR : Rdr w rb g 8 8 (0 : Int) 0 l) (hby : ∀ x ∈ l, 0 ≤ x ∧ x ≤ 255) :
    Calls Tryd.prog 50 #[.pointer (some ⟨rb, 0, none⟩)] w fun e w' => e = .returned (.int .u64 (val l)) ∧ Went w w' rb g 8 8 8 0 l := by
  have h := sum_ok rb g 8 8 0 l w hR (by omega) (by omega) hby
  rw [List.drop_zero, List.take_of_length_le (by omega)] at h
  exact h
set_option maxHeartbeats 2000000 in
theorem summed_any (b o c : Nat) (bs : List Int) (w : World) (hL : Lies w (some ⟨b, o, none⟩) 512 c bs) (hby : ∀ x ∈ bs, 0 ≤ x ∧ x ≤ 255) :
    Calls Tryd.prog 34 #[.slice (some ⟨b, o, none⟩) 512 c] w fun e w' => e = .returned (.bool (val ((bs.drop 36).take 8) == sumOf (bs.take 36))) ∧ Below w.heap.size w w' := by
  have hc := hL.hle
  have hci : (512 : Int) ≤ c := by omega
  have hA0 : Lies w (some ⟨b, o, none⟩) 36 c (bs.take 36) := hL.piece 0 36 c (by omega) (by omega)
  have hR0 : Lies w (some ⟨b, o + 36, none⟩) 8 (c - 36) ((bs.drop 36).take 8) := hL.piece 36 8 (c - 36) (by omega) (by omega)
  have hb1 : ∀ x ∈ bs.take 36, 0 ≤ x ∧ x ≤ 255 := fun x hx => hby x (List.mem_of_mem_take hx)
  have hb2 : ∀ x ∈ (bs.drop 36).take 8, 0 ≤ x ∧ x ≤ 255 := fun x hx => hby x (List.mem_of_mem_drop (List.mem_of_mem_take hx))
  have k44 : (44 : Int) ≤ c := by omega
  have k36 : (36 : Int) ≤ c := by omega
  have kne : ¬ c = 36 := by omega
  have hbl : b < w.heap.size := by
    obtain ⟨b2, o2, e, hcs⟩ := hL.at (by omega)
    cases e
    exact World.block_lt_of_cell? w _ (hcs 0 (by omega))
  have hAd : Lies w.drew (some ⟨b, o, none⟩) 36 c (bs.take 36) := hA0.below (Below.refl w.heap.size w).drew (Nat.le_refl _)
  have hRd : Lies w.drew (some ⟨b, o + 36, none⟩) 8 (c - 36) ((bs.drop 36).take 8) := hR0.below (Below.refl w.heap.size w).drew (Nat.le_refl _)
  have hl8 : ((bs.drop 36).take 8).length = 8 := hR0.hlen
  clear hby hA0 hR0 hL
  generalize (bs.drop 36).take 8 = l at *
  go_enter Tryd.func34, Tryd.ntmps34
  go_wp2
  go_region_held3 (fun _ => True) (trivial)
    (first
      | (go_at_call 49; refine (newReader_any _ 8 (c - 36) l _ (by omega) hRd).mono ?_; rintro e w1 ⟨rb, g, rfl, hR1, hrb, hg1, hn1⟩; have hA1 := hAd.below hn1 (Nat.le_refl _))
      | (go_at_call 50; refine (sum_eight rb g l _ hl8 hR1 hb2).mono ?_; rintro e w2 ⟨rfl, hR2, hg2⟩; have hA2 := hA1.grown hg2 (fun ad had => by cases had; intro h; cases h; exact absurd hbl (Nat.not_lt.2 hrb)))
      | (go_at_call 46; refine (S2.sum_any (some ⟨b, o, none⟩) 36 c (bs.take 36) _ (by omega) (by first | with_reducible exact hAd | with_reducible exact hA1 | with_reducible exact hA2) hb1).mono ?_; rintro e wq ⟨rfl, hq⟩; subst wq))
  all_goals
    have hq2 : Below w.heap.size w w2 := ((Below.refl w.heap.size w).drew.trans hn1).grown hg2 hn1.size (fun k hk => by cases hk; exact hrb)
    go_wp2
    go_ret
    exact ⟨rfl, hq2⟩
end Go.Proofs.YtgpeefedboomoabDoor
