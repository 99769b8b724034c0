/- The document's bare and Text. (Written by mkPF.py.) -/
import Derived.Test.YtjkmdacgiebbfaaDoorPE
namespace Go.Proofs.YtjkmdacgiebbfaaDoor
open Go.RowKit
set_option maxRecDepth 100000

theorem rbare_any (b : UInt8) (w : World) : Calls Tryd.prog 25 #[ub b] w fun e w' => e = .returned (.bool (bareB b)) ∧ w' = w := by
  rw [← bareR_byte]
  obtain ⟨r, hr⟩ : ∃ r : Int, (b.toNat : Int) = r := ⟨_, rfl⟩
  unfold ub
  rw [hr]
  clear hr
  go_enter Tryd.func25, Tryd.ntmps25
  go_wp2
  all_goals
    go_ret
    refine ⟨?_, rfl⟩
    show Ending.returned (Value.bool _) = Ending.returned (Value.bool _)
    congr 2 <;> (rw [Bool.eq_iff_iff]; simp only [bareR, Bool.or_eq_true, Bool.and_eq_true, decide_eq_true_eq, beq_iff_eq, true_iff] at *; omega)

theorem nib_div (b : UInt8) : (b.toNat : Int) / 16 = ((b >>> 4).toNat : Int) ∧ (b >>> 4).toNat < 16 := nib_hi b
theorem nib_mod (b : UInt8) : (b.toNat : Int) % 16 = ((b &&& 15).toNat : Int) ∧ (b &&& 15).toNat < 16 := u8_all (p := fun b => (b.toNat : Int) % 16 = ((b &&& 15).toNat : Int) ∧ (b &&& 15).toNat < 16) (by decide +kernel) b

set_option maxHeartbeats 4000000 in
theorem RText_any (s : ByteArray) (w : World) (hs : s.size ≤ 30000000000000) : Calls Tryd.prog 14 #[.string s] w fun e w' => e = .returned (.string (tx (textT (bs s)))) ∧ Below w.heap.size w w' := by
  have hsi : (s.size : Int) ≤ 30000000000000 := by omega
  obtain ⟨i0, hi, hz0, hz1, hz2⟩ := info_parts Tryd.info5
  have o1 : (w.alloc (.cells #[.int .u8 34] 5)).ownsRow w.heap.size 5 1 (.slice (some ⟨w.heap.size, 0, none⟩) 1 1) 1 (([34] : By).map ub) := World.ownsRow_lit w #[.int .u8 34] 1 (Nat.le_refl _) (by decide) rfl
  have HO1 : Hid ((w.alloc (.cells #[.int .u8 34] 5)).ownsRow w.heap.size 5 1 (.slice (some ⟨w.heap.size, 0, none⟩) 1 1) 1 (([34] : By).map ub)) := o1
  clear o1
  go_enter Tryd.func14, Tryd.ntmps14
  go_wp2_with fail
  go_loopw [3, 4] (fun p k wr => ∃ q : Nat, q ≤ s.size ∧ k = .int .i64 q ∧ p = .bool (!(bs s).isEmpty && ((bs s).take q).all bareB) ∧ wr = w) (fun _ k _ => s.size - (intOf k).toNat)
  case atStart => exact ⟨0, Nat.zero_le _, rfl, by rw [List.take_zero, List.all_nil, Bool.and_true, ← show s.toList = bs s from ByteArray.toList_eq s], rfl⟩
  case round =>
    obtain ⟨q, hq, rfl, rfl, rfl⟩ := hrel
    by_cases hlt : q < s.size
    · obtain ⟨b, hb⟩ : ∃ b, s[q]'hlt = b := ⟨_, rfl⟩
      have hT := bs_take s q hlt
      rw [hb] at hT
      have HT2 : Hid ((bs s).take (q + 1) = (bs s).take q ++ [b]) := hT
      clear hT
      have hA := rbare_any b wr
      obtain ⟨x, hx⟩ : ∃ x : Bool, (!(bs s).isEmpty && ((bs s).take q).all bareB) = x := ⟨_, rfl⟩
      have HX : Hid ((!(bs s).isEmpty && ((bs s).take q).all bareB) = x) := hx
      rw [hx]
      clear hx
      go_wp2_with fail
      refine hA.mono ?_
      rintro e w1 ⟨rfl, hw1⟩
      subst w1
      clear hA
      have HR : Hid ((x && bareB b) = (!(bs s).isEmpty && ((bs s).take (q + 1)).all bareB)) := by
        show (x && bareB b) = _
        rw [HT2.out, List.all_append, ← Bool.and_assoc, HX.out]; simp
      cases x
      all_goals
        go_wp2_with fail
        go_roundw
        case rel => exact ⟨q + 1, by omega, by go_num, by rw [← HR.out]; simp, by simp⟩
        case measure => simp [intOf]; omega
    · obtain rfl : q = s.size := by omega
      rw [List.take_of_length_le (by rw [size_bs]; exact Nat.le_refl _), show (!(bs s).isEmpty && (bs s).all bareB) = bareW (bs s) from rfl]
      by_cases hb : bareW (bs s) = true
      · have ht : tx (textT (bs s)) = s := by unfold textT; rw [if_pos hb, tx_bs]
        have HT : Hid (tx (textT (bs s)) = s) := ht
        rw [hb]
        clear HO1 hb ht
        go_wp2_with fail
        go_ret
        exact ⟨by rw [HT.out]; rfl, Below.refl _ _⟩
      · have ht : textT (bs s) = 34 :: ((bs s).flatMap quoteB ++ [34]) := by unfold textT; rw [if_neg hb]
        have HT : Hid (textT (bs s) = 34 :: ((bs s).flatMap quoteB ++ [34])) := ht
        have hb' : bareW (bs s) = false := by simpa using hb
        rw [hb']
        obtain ⟨w, hw⟩ : ∃ w, w = wr := ⟨_, rfl⟩
        subst hw
        clear hb ht hb'
        go_wp2_with fail
        go_loopw [6, 7, 8] (fun wd k c wr => ∃ q n : Nat, q ≤ s.size ∧ k = .int .i64 q ∧ wr.ownsRow w.heap.size 5 1 wd n ((34 :: ((bs s).take q).flatMap quoteB).map ub) ∧ Below w.heap.size w wr) (fun _ k _ _ => s.size - (intOf k).toNat)
        case atStart => exact ⟨0, 1, Nat.zero_le _, rfl, HO1.out, (Below.refl _ w).alloc (Nat.le_refl _) _⟩
        case round =>
          obtain ⟨q, n, hq, rfl, hO, hB⟩ := hrel
          obtain ⟨ao, cc, rfl⟩ := own_slice hO
          have hn : n = 1 + (((bs s).take q).flatMap quoteB).length := by have := hO.1; rw [List.length_map, List.length_cons] at this; omega
          have hn4 : (((bs s).take q).flatMap quoteB).length ≤ 4 * q := by
            have := quotes_len ((bs s).take q)
            rw [List.length_take, size_bs] at this
            omega
          have hnb : n ≤ 1 + 4 * s.size := by omega
          clear hn hn4
          have HO : Hid (wr.ownsRow w.heap.size 5 1 (.slice ao n cc) n ((34 :: ((bs s).take q).flatMap quoteB).map ub)) := hO
          have HB : Hid (Below w.heap.size w wr) := hB
          have hws : w.heap.size ≤ wr.heap.size := hB.size
          clear hO hB HO1
          by_cases hlt : q < s.size
          · obtain ⟨b, hb⟩ : ∃ b, s[q]'hlt = b := ⟨_, rfl⟩
            have hT := bs_take s q hlt
            rw [hb] at hT
            have HT2 : Hid ((bs s).take (q + 1) = (bs s).take q ++ [b]) := hT
            clear hT
            have hb0 : 0 ≤ (b.toNat : Int) := by omega
            have hb1 : (b.toNat : Int) ≤ 255 := by have := b.toNat_lt; omega
            by_cases h : b = 34 ∨ b = 92
            · have HQ : Hid (quoteB b = [92, b]) := if_pos h
              have hc : ((b.toNat : Int) == 34) = true ∨ ((b.toNat : Int) == 34) = false ∧ ((b.toNat : Int) == 92) = true := by
                rcases h with rfl | rfl
                · exact Or.inl rfl
                · exact Or.inr ⟨rfl, rfl⟩
              clear h
              rcases hc with hc | ⟨hc, hc2⟩
              all_goals
                go_wp2_with (first | (at_builtin; refine wpList_append_lies _ rfl (.tmp 48) (.tmp 49) 23 rfl (w.heap.size) 5 i0 (.int .u8 0) 1 1 Tryd.underlying23 hi hz0 hz1 hz2 rfl (by decide) _ (n) _ rfl (HO.out.alloc _) ⟨wr.heap.size, 0, none⟩ 1 1 [.int .u8 92] rfl rfl (World.news_of_block (heap_alloc_new _ _)) (by intro u hu; simp at hu; rcases hu with rfl <;> rfl) (by decide) (by unfold maxLen; omega) (by omega) (by simp; omega) _ rfl ?_; intro g1 c1 W1 ho1 hg1 _ _; have hB1 := grown_B HO.out hws ((Below.refl _ wr).alloc (Nat.le_refl _) _) hg1; have hS1 : w.heap.size ≤ W1.heap.size := (Nat.le_trans (hws) (by have := hg1.size; simp at this; omega))) | (at_builtin; refine wpList_append_lies _ rfl (.tmp 51) (.tmp 53) 23 rfl (w.heap.size) 5 i0 (.int .u8 0) 1 1 Tryd.underlying23 hi hz0 hz1 hz2 rfl (by decide) _ (n + 1) _ rfl (ho1.alloc _) ⟨W1.heap.size, 0, none⟩ 1 1 [ub b] rfl rfl (World.news_of_block (heap_alloc_new _ _)) (by intro u hu; simp at hu; rcases hu with rfl <;> rfl) (by decide) (by unfold maxLen; omega) (by omega) (by simp; omega) _ rfl ?_; intro g2 c2 W2 ho2 hg2 _ _; have hB2 := grown_B ho1 hS1 ((Below.refl _ W1).alloc (Nat.le_refl _) _) hg2; have hS2 : w.heap.size ≤ W2.heap.size := (Nat.le_trans (hS1) (by have := hg2.size; simp at this; omega))) | fail)
                go_roundw
                case rel =>
                  refine ⟨q + 1, n + 2, by omega, by go_num, ?_, ((HB.out).trans hB1).trans hB2⟩
                  have hz := ho2
                  rw [HT2.out, List.flatMap_append, ← List.cons_append, List.map_append]
                  simp only [List.flatMap_cons, List.flatMap_nil, List.append_nil]
                  rw [HQ.out]
                  simp only [List.append_assoc, List.cons_append, List.nil_append, List.map_cons, List.map_nil] at hz ⊢
                  exact hz
                case measure => simp [intOf]; omega
            · have g1 : ((b.toNat : Int) == 34) = false := by
                have : b ≠ 34 := fun e => h (Or.inl e)
                simp; intro e; exact this (UInt8.toNat_inj.1 (by simp; omega))
              have g2 : ((b.toNat : Int) == 92) = false := by
                have : b ≠ 92 := fun e => h (Or.inr e)
                simp; intro e; exact this (UInt8.toNat_inj.1 (by simp; omega))
              by_cases hp : plainB b = true
              · have HQ : Hid (quoteB b = [b]) := by show quoteB b = [b]; unfold quoteB; rw [if_neg h, if_pos hp]
                have hp1 : 32 ≤ (b.toNat : Int) := by simp [plainB] at hp; omega
                have hp2 : (b.toNat : Int) ≤ 126 := by simp [plainB] at hp; omega
                have e1 : decide ((b.toNat : Int) < 32) = false := decide_eq_false (by omega)
                have e2 : decide (126 < (b.toNat : Int)) = false := decide_eq_false (by omega)
                clear h hp
                go_wp2_with (first | (at_builtin; refine wpList_append_lies _ rfl (.tmp 37) (.tmp 39) 23 rfl (w.heap.size) 5 i0 (.int .u8 0) 1 1 Tryd.underlying23 hi hz0 hz1 hz2 rfl (by decide) _ (n) _ rfl (HO.out.alloc _) ⟨wr.heap.size, 0, none⟩ 1 1 [ub b] rfl rfl (World.news_of_block (heap_alloc_new _ _)) (by intro u hu; simp at hu; rcases hu with rfl <;> rfl) (by decide) (by unfold maxLen; omega) (by omega) (by simp; omega) _ rfl ?_; intro g1 c1 W1 ho1 hg1 _ _; have hB1 := grown_B HO.out hws ((Below.refl _ wr).alloc (Nat.le_refl _) _) hg1; have hS1 : w.heap.size ≤ W1.heap.size := (Nat.le_trans (hws) (by have := hg1.size; simp at this; omega))) | fail)
                go_roundw
                case rel =>
                  refine ⟨q + 1, n + 1, by omega, by go_num, ?_, (HB.out).trans hB1⟩
                  have hz := ho1
                  rw [HT2.out, List.flatMap_append, ← List.cons_append, List.map_append]
                  simp only [List.flatMap_cons, List.flatMap_nil, List.append_nil]
                  rw [HQ.out]
                  simp only [List.cons_append, List.map_cons, List.map_nil] at hz ⊢
                  exact hz
                case measure => simp [intOf]; omega
              · have HQ : Hid (quoteB b = [92, 120, digB (b >>> 4), digB (b &&& 15)]) := by show quoteB b = _; unfold quoteB; rw [if_neg h, if_neg hp]
                have hpp : decide ((b.toNat : Int) < 32) = true ∨ decide ((b.toNat : Int) < 32) = false ∧ decide (126 < (b.toNat : Int)) = true := by
                  simp [plainB] at hp ⊢; omega
                obtain ⟨z1, p1⟩ := nib_div b
                obtain ⟨z2, p2⟩ := nib_mod b
                have q1 : 0 ≤ (b.toNat : Int) / 16 := by omega
                have q2 : (b.toNat : Int) / 16 < 16 := by omega
                have q3 : 0 ≤ (b.toNat : Int) % 16 := by omega
                have q4 : (b.toNat : Int) % 16 < 16 := by omega
                have d1 : ∀ h : ((b.toNat : Int) / 16).toNat < hexS.size, (hexS[((b.toNat : Int) / 16).toNat]'h).toNat = (digB (b >>> 4)).toNat := fun h => by
                  have e : ((b.toNat : Int) / 16).toNat = (b >>> 4).toNat := by omega
                  rw [hexS_at _ (by omega), of_nib (b >>> 4) _ e.symm]
                have d2 : ∀ h : ((b.toNat : Int) % 16).toNat < hexS.size, (hexS[((b.toNat : Int) % 16).toNat]'h).toNat = (digB (b &&& 15)).toNat := fun h => by
                  have e : ((b.toNat : Int) % 16).toNat = (b &&& 15).toNat := by omega
                  rw [hexS_at _ (by omega), of_nib (b &&& 15) _ e.symm]
                clear z1 z2 p1 p2 h hp
                rcases hpp with hpp | ⟨hpp, hpq⟩
                all_goals
                  go_wp2_with (first | (at_builtin; refine wpList_append_lies _ rfl (.tmp 62) (.tmp 63) 23 rfl (w.heap.size) 5 i0 (.int .u8 0) 1 1 Tryd.underlying23 hi hz0 hz1 hz2 rfl (by decide) _ (n) _ rfl (HO.out.alloc _) ⟨wr.heap.size, 0, none⟩ 1 1 [.int .u8 92] rfl rfl (World.news_of_block (heap_alloc_new _ _)) (by intro u hu; simp at hu; rcases hu with rfl <;> rfl) (by decide) (by unfold maxLen; omega) (by omega) (by simp; omega) _ rfl ?_; intro g1 c1 W1 ho1 hg1 _ _; have hB1 := grown_B HO.out hws ((Below.refl _ wr).alloc (Nat.le_refl _) _) hg1; have hS1 : w.heap.size ≤ W1.heap.size := (Nat.le_trans (hws) (by have := hg1.size; simp at this; omega))) | (at_builtin; refine wpList_append_lies _ rfl (.tmp 65) (.tmp 66) 23 rfl (w.heap.size) 5 i0 (.int .u8 0) 1 1 Tryd.underlying23 hi hz0 hz1 hz2 rfl (by decide) _ (n + 1) _ rfl (ho1.alloc _) ⟨W1.heap.size, 0, none⟩ 1 1 [.int .u8 120] rfl rfl (World.news_of_block (heap_alloc_new _ _)) (by intro u hu; simp at hu; rcases hu with rfl <;> rfl) (by decide) (by unfold maxLen; omega) (by omega) (by simp; omega) _ rfl ?_; intro g2 c2 W2 ho2 hg2 _ _; have hB2 := grown_B ho1 hS1 ((Below.refl _ W1).alloc (Nat.le_refl _) _) hg2; have hS2 : w.heap.size ≤ W2.heap.size := (Nat.le_trans (hS1) (by have := hg2.size; simp at this; omega))) | (at_builtin; refine wpList_append_lies _ rfl (.tmp 68) (.tmp 72) 23 rfl (w.heap.size) 5 i0 (.int .u8 0) 1 1 Tryd.underlying23 hi hz0 hz1 hz2 rfl (by decide) _ (n + 1 + 1) _ rfl (ho2.alloc _) ⟨W2.heap.size, 0, none⟩ 1 1 [ub (digB (b >>> 4))] rfl rfl (World.news_of_block (heap_alloc_new _ _)) (by intro u hu; simp at hu; rcases hu with rfl <;> rfl) (by decide) (by unfold maxLen; omega) (by omega) (by simp; omega) _ rfl ?_; intro g3 c3 W3 ho3 hg3 _ _; have hB3 := grown_B ho2 hS2 ((Below.refl _ W2).alloc (Nat.le_refl _) _) hg3; have hS3 : w.heap.size ≤ W3.heap.size := (Nat.le_trans (hS2) (by have := hg3.size; simp at this; omega))) | (at_builtin; refine wpList_append_lies _ rfl (.tmp 74) (.tmp 78) 23 rfl (w.heap.size) 5 i0 (.int .u8 0) 1 1 Tryd.underlying23 hi hz0 hz1 hz2 rfl (by decide) _ (n + 1 + 1 + 1) _ rfl (ho3.alloc _) ⟨W3.heap.size, 0, none⟩ 1 1 [ub (digB (b &&& 15))] rfl rfl (World.news_of_block (heap_alloc_new _ _)) (by intro u hu; simp at hu; rcases hu with rfl <;> rfl) (by decide) (by unfold maxLen; omega) (by omega) (by simp; omega) _ rfl ?_; intro g4 c4 W4 ho4 hg4 _ _; have hB4 := grown_B ho3 hS3 ((Below.refl _ W3).alloc (Nat.le_refl _) _) hg4; have hS4 : w.heap.size ≤ W4.heap.size := (Nat.le_trans (hS3) (by have := hg4.size; simp at this; omega))) | fail)
                  go_roundw
                  case rel =>
                    refine ⟨q + 1, n + 4, by omega, by go_num, ?_, ((((HB.out).trans hB1).trans hB2).trans hB3).trans hB4⟩
                    have hz := ho4
                    rw [HT2.out, List.flatMap_append, ← List.cons_append, List.map_append]
                    simp only [List.flatMap_cons, List.flatMap_nil, List.append_nil]
                    rw [HQ.out]
                    simp only [List.append_assoc, List.cons_append, List.nil_append, List.map_cons, List.map_nil] at hz ⊢
                    exact hz
                  case measure => simp [intOf]; omega
          · obtain rfl : q = s.size := by omega
            have hO2 : wr.ownsRow w.heap.size 5 1 (.slice ao n cc) n ((34 :: (bs s).flatMap quoteB).map ub) := by
              have := HO.out
              rwa [List.take_of_length_le (by rw [size_bs]; exact Nat.le_refl _)] at this
            have HO2 : Hid (wr.ownsRow w.heap.size 5 1 (.slice ao n cc) n ((34 :: (bs s).flatMap quoteB).map ub)) := hO2
            clear hO2 HO
            go_wp2_with (first | (at_builtin; refine wpList_append_lies _ rfl (.tmp 80) (.tmp 81) 23 rfl (w.heap.size) 5 i0 (.int .u8 0) 1 1 Tryd.underlying23 hi hz0 hz1 hz2 rfl (by decide) _ (n) _ rfl (HO2.out.alloc _) ⟨wr.heap.size, 0, none⟩ 1 1 [.int .u8 34] rfl rfl (World.news_of_block (heap_alloc_new _ _)) (by intro u hu; simp at hu; rcases hu with rfl <;> rfl) (by decide) (by unfold maxLen; omega) (by omega) (by simp; omega) _ rfl ?_; intro g1 c1 W1 ho1 hg1 _ _; have hB1 := grown_B HO2.out hws ((Below.refl _ wr).alloc (Nat.le_refl _) _) hg1; have hS1 : w.heap.size ≤ W1.heap.size := (Nat.le_trans (hws) (by have := hg1.size; simp at this; omega)); have hoF : W1.ownsRow w.heap.size 5 1 (.slice (some ⟨g1, 0, none⟩) (n + 1) c1) (n + 1) ((34 :: ((bs s).flatMap quoteB ++ [34])).map ub) := (by rw [← List.cons_append, List.map_append]; exact ho1); have hcv := conv_row hoF; clear ho1 hg1 hoF) | fail)
            go_ret
            exact ⟨by rw [HT.out]; rfl, HB.out.trans hB1⟩
end Go.Proofs.YtjkmdacgiebbfaaDoor
