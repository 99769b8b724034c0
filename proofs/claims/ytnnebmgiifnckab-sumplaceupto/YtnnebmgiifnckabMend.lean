/- sum.Mend by its contract. -/
import Derived.Test.YtnnebmgiifnckabMendMath
import Derived.Test.YtnnebmgiifnckabBegs
import Derived.Test.YtnnebmgiifnckabLow
import Derived.Deep.RegionWith
namespace Go.Proofs.Ytnnebmgiifnckab
open Go.RowKit
set_option maxRecDepth 100000

set_option maxHeartbeats 1000000 in
theorem mend_pos (z : Int) (b o c n : Nat) (bs : List Int) (w : World) (hn : n ≤ 1048576) (h0 : 0 < n) (hL : Lies w (some ⟨b, o, none⟩) n c bs) (hby : ∀ x ∈ bs, By x)
    (hc : ∀ t, t < n → w.cell? ⟨b, o + t, none⟩ = some (.int .u8 (bs.getD t 0))) :
    Calls Try.prog 18 #[.slice (some ⟨b, o, none⟩) n c, .int .u64 z] w fun e w' => (∃ i y r, e = .returned (.tuple #[.int .i64 i, .int .u8 y, .bool r]) ∧ Mended bs z i y r) ∧ Below w.heap.size w w' := by
  have hni : (n : Int) ≤ 1048576 := by omega
  have hlen := hL.hlen
  go_enter Try.func18, Try.ntmps18
  go_wp2_with fail
  refine (begs_any _ n c bs _ hn hL hby).mono ?_
  rintro e w1 ⟨g1, L1, rfl, hown1, hl1, hL1, hb1⟩
  have hcn := nums_cell hown1 hl1 n (by omega)
  have hfull : L1.getD n 0 = fwd 14695981039346656037 bs := by
    have := hL1 n (by omega)
    simp only [List.take_of_length_le (show bs.length ≤ n by omega)] at this
    exact this
  rw [hfull] at hcn
  clear hfull
  by_cases heq : fwd 14695981039346656037 bs = z
  · have hbe : (fwd 14695981039346656037 bs == z) = true := by simpa using heq
    clear hc hL
    have HE : Hid _ := heq
    clear heq
    generalize fwd 14695981039346656037 bs = F at hcn hbe
    go_wp2_with fail
    go_ret3
    exact ⟨⟨_, _, _, rfl, Or.inl ⟨HE.out, rfl, rfl, rfl⟩⟩, hb1⟩
  · have hbe : (fwd 14695981039346656037 bs == z) = false := by simpa using heq
    have HE : Hid (¬ fwd 14695981039346656037 bs = z) := heq
    clear heq
    have hLw1 := hL.below hb1 (Nat.le_refl _)
    have hc1 : ∀ t, t < n → w1.cell? ⟨b, o + t, none⟩ = some (.int .u8 (bs.getD t 0)) := fun t ht => cell_later hb1 (hc t ht)
    clear hc hL
    generalize fwd 14695981039346656037 bs = F at hcn hbe
    go_wp2_with fail
    refine (ends_any z _ n c bs _ hn hLw1 hby).mono ?_
    rintro e w2 ⟨g2, L2, rfl, hown2, hl2, hL2, hb2⟩
    have hcA : ∀ j, j < n → w2.cell? ⟨g1, j, none⟩ = some (.int .u64 (fwd 14695981039346656037 (bs.take j))) := fun j hj => by
      have := nums_cell hown1 hl1 j (by omega)
      rw [hL1 j (by omega)] at this
      exact cell_later hb2 this
    have hcB : ∀ j, j < n → w2.cell? ⟨g2, j, none⟩ = some (.int .u64 (bwd z (bs.drop j))) := fun j hj => by
      have := nums_cell hown2 hl2 j (by omega)
      rw [hL2 j (by omega)] at this
      exact this
    have hcC : ∀ t, t < n → w2.cell? ⟨b, o + t, none⟩ = some (.int .u8 (bs.getD t 0)) := fun t ht => cell_later hb2 (hc1 t ht)
    have hbb := hb1.trans (hb2.mono hb1.size)
    clear hc1 hLw1 hown1 hown2 hl1 hl2 hL1 hL2 hb1 hb2 hcn hbe
    go_wp2_with fail
    go_loopw [27] (fun i wr => ∃ k : Nat, k ≤ n ∧ i = .int .i64 k ∧ (∀ j, j < k → 256 ≤ cand bs z j) ∧ Below w2.heap.size w2 wr) (fun i _ => n - (intOf i).toNat)
    case atStart => exact ⟨0, Nat.zero_le _, rfl, fun j hj => by omega, Below.refl _ _⟩
    case round =>
      obtain ⟨k, hk, rfl, hno, hbr⟩ := hrel
      have HNO : Hid (∀ j, j < k → 256 ≤ cand bs z j) := hno
      clear hno
      by_cases hlt : k < n
      · have hkn : (k : Int) < n := by omega
        have hA := cell_later hbr (hcA k hlt)
        have hB := cell_later hbr (hcB k hlt)
        have hC := cell_later hbr (hcC k hlt)
        have hkb : k < bs.length := by omega
        have hD := diff_is (z := z) hby hkb
        have hDu := diff_u (z := z) hby hkb
        have hDl := diff_low (z := z) hby hkb
        have hDb := diff_byte (z := z) hby hkb
        rw [← hD] at hDu hDl hDb
        clear hD hcA hcB hcC
        by_cases hcand : cand bs z k < 256
        · have hon := fun u => only_low _ u hDu.1 (hDl.2 hcand)
          have HB : Hid _ := hDb hcand
          clear hDu hDl hDb hby
          generalize fwd 14695981039346656037 (bs.take k) = F1 at *
          generalize bwd z (bs.drop k) = F2 at *
          generalize bs.getD k 0 = x at *
          go_wp2_with fail
          go_region_with (go_at_call 29; refine (hon _).mono ?_; rintro e w9 ⟨rfl, hb9⟩)
          all_goals
            have hbn := hbr.drew.trans (hb9.mono (by have := hbr.size; simp; omega))
            go_wp2_with fail
            go_ret3
            exact ⟨⟨_, _, _, rfl, Or.inr (Or.inl ⟨HE.out, k, by omega, HNO.out, hcand, rfl, HB.out, rfl⟩)⟩, hbb.trans (hbn.mono hbb.size)⟩
        · have hcand : 256 ≤ cand bs z k := by omega
          have hon := fun u => only_high _ u hDu (by have := hDl.1; omega)
          clear hDu hDl hDb hby
          generalize fwd 14695981039346656037 (bs.take k) = F1 at *
          generalize bwd z (bs.drop k) = F2 at *
          generalize bs.getD k 0 = x at *
          go_wp2_with fail
          go_region_with (go_at_call 29; refine (hon _).mono ?_; rintro e w9 ⟨rfl, hb9⟩)
          all_goals
            have hbn := hbr.drew.trans (hb9.mono (by have := hbr.size; simp; omega))
            go_wp2_with fail
            go_roundw
            case rel =>
              refine ⟨k + 1, by omega, by go_num, fun j hj => ?_, hbn⟩
              by_cases h : j < k
              · exact HNO.out j h
              · obtain rfl : j = k := by omega
                exact hcand
            case measure => simp [intOf]; omega
      · have hkn : (n : Int) ≤ k := by omega
        clear hcA hcB hcC hby
        go_wp2_with fail
        go_ret3
        exact ⟨⟨_, _, _, rfl, Or.inr (Or.inr ⟨HE.out, fun j hj => HNO.out j (by omega), rfl, rfl, rfl⟩)⟩, hbb.trans (hbr.mono hbb.size)⟩

set_option maxHeartbeats 400000 in
theorem mend_zero (z : Int) (ao : Option Addr) (c : Nat) (w : World) (hL : Lies w ao 0 c []) :
    Calls Try.prog 18 #[.slice ao 0 c, .int .u64 z] w fun e w' => (∃ i y r, e = .returned (.tuple #[.int .i64 i, .int .u8 y, .bool r]) ∧ Mended [] z i y r) ∧ Below w.heap.size w w' := by
  have hnil : ∀ x ∈ ([] : List Int), By x := fun x hx => by cases hx
  go_enter Try.func18, Try.ntmps18
  go_wp2_with fail
  refine (begs_any _ 0 c [] _ (by omega) hL hnil).mono ?_
  rintro e w1 ⟨g1, L1, rfl, hown1, hl1, hL1, hb1⟩
  have hcn := nums_cell hown1 hl1 0 (by omega)
  have hfull : L1.getD 0 0 = fwd 14695981039346656037 [] := hL1 0 (by omega)
  rw [hfull] at hcn
  clear hfull
  by_cases heq : fwd 14695981039346656037 [] = z
  · have hbe : (fwd 14695981039346656037 [] == z) = true := by simpa using heq
    have HE : Hid _ := heq
    clear heq
    generalize fwd 14695981039346656037 [] = F at hcn hbe
    go_wp2_with fail
    go_ret3
    exact ⟨⟨_, _, _, rfl, Or.inl ⟨HE.out, rfl, rfl, rfl⟩⟩, hb1⟩
  · have hbe : (fwd 14695981039346656037 [] == z) = false := by simpa using heq
    have HE : Hid (¬ fwd 14695981039346656037 [] = z) := heq
    clear heq
    have hLw1 := hL.below hb1 (Nat.le_refl _)
    generalize fwd 14695981039346656037 [] = F at hcn hbe
    go_wp2_with fail
    refine (ends_any z _ 0 c [] _ (by omega) hLw1 hnil).mono ?_
    rintro e w2 ⟨g2, L2, rfl, hown2, hl2, hL2, hb2⟩
    have hbb := hb1.trans (hb2.mono hb1.size)
    go_wp2_with fail
    refine wp_loop_rounds 1 ?_
    rw [rounds_succ]
    go_wp2
    go_ret3
    exact ⟨⟨_, _, _, rfl, Or.inr (Or.inr ⟨HE.out, fun j hj => by simp at hj, rfl, rfl, rfl⟩)⟩, hbb⟩

/-- Mend, of any list and any number. -/
theorem mend_any (z : Int) (ao : Option Addr) (n c : Nat) (bs : List Int) (w : World) (hn : n ≤ 1048576) (hL : Lies w ao n c bs) (hby : ∀ x ∈ bs, By x) :
    Calls Try.prog 18 #[.slice ao n c, .int .u64 z] w fun e w' => (∃ i y r, e = .returned (.tuple #[.int .i64 i, .int .u8 y, .bool r]) ∧ Mended bs z i y r) ∧ Below w.heap.size w w' := by
  by_cases h0 : 0 < n
  · obtain ⟨b, o, rfl, hc⟩ := hL.at h0
    exact mend_pos z b o c n bs w hn h0 hL hby hc
  · obtain rfl : n = 0 := by omega
    obtain rfl := List.eq_nil_of_length_eq_zero hL.hlen
    exact mend_zero z ao c w hL
end Go.Proofs.Ytnnebmgiifnckab
