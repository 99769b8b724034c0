/- play.Text. -/
import Derived.Test.YtjkmdacgiebbfaaDoorPD
import Derived.Test.YtjkmdacgiebbfaaDoorShelf
import Derived.Laws.BytesArg
namespace Go.Proofs.YtjkmdacgiebbfaaDoor
open Go.RowKit
set_option maxRecDepth 100000

theorem clone_any (s : ByteArray) (w : World) (hs : s.size ≤ 140737488351232) : Calls Tryd.prog 21 #[.string s] w fun e w' => e = .returned (.string s) ∧ Below w.heap.size w w' := by
  go_enter Tryd.func21, Tryd.ntmps21
  go_wp2_with (go_at_call 32; refine (Tryd.stringslite_Clone _ _ (by omega)).mono ?_; rintro e w' ⟨rfl, hb⟩)
  go_ret
  exact ⟨rfl, hb⟩
theorem str_bytes (l : By) : strOfNums (l.map fun b => (b.toNat : Int)) = tx l := by
  unfold strOfNums tx
  rw [List.map_map]
  congr 2
  conv => rhs; rw [← List.map_id l]
  exact List.map_congr_left fun b _ => by simp
/-- A row of bytes as a text. -/
theorem conv_row {w : World} {B n c : Nat} {ao : Option Addr} {l : By} (h : w.ownsRow B 5 1 (.slice ao n c) n (l.map ub)) : (convert 23 9 (.slice ao n c)).run Tryd.prog w = .ok (.string (tx l)) w := by
  have hl : l.length = n := by have := h.1; simpa using this
  rcases h.2 with ⟨hv, hn⟩ | ⟨g, cap, cur, hv, _⟩
  · cases hv
    have h0 : l = [] := List.eq_nil_of_length_eq_zero (by omega)
    subst h0
    exact run_convert_bytes_nil (P := Tryd.prog) w 23 5 Tryd.underlying23 Tryd.underlying5 0 0 9 Tryd.underlying9
  · cases hv
    rw [← str_bytes l]
    refine run_convert_bytes_arg (P := Tryd.prog) w 23 5 Tryd.underlying23 Tryd.underlying5 g 0 n c _ (by simpa using hl) (fun i hi => ?_) 9 Tryd.underlying9
    rw [Nat.zero_add, h.cellAt i (by omega)]
    simp [List.getD, show i < l.length by omega]

set_option maxHeartbeats 2000000 in
theorem Text_any (s : ByteArray) (w : World) (hs : s.size ≤ 30000000000000) : Calls Tryd.prog 9 #[.string s] w fun e w' => e = .returned (.string (tx (textT (bs s)))) ∧ Below w.heap.size w w' := by
  have hW := isBareWord_any s w (by omega)
  have hsi : (s.size : Int) ≤ 30000000000000 := by omega
  by_cases hb : bareW (bs s) = true
  · have ht : tx (textT (bs s)) = s := by unfold textT; rw [if_pos hb, tx_bs]
    rw [ht]
    rw [hb] at hW
    have hC := clone_any s w (by omega)
    clear hb ht
    go_enter Tryd.func9, Tryd.ntmps9
    go_wp2_with fail
    refine hW.mono ?_
    rintro e w1 ⟨rfl, hw1⟩
    subst w1
    clear hW
    go_wp2_with fail
    refine hC.mono ?_
    rintro e w1 ⟨rfl, b1⟩
    clear hC
    go_wp2_with fail
    go_ret
    exact ⟨rfl, b1⟩
  · have ht : textT (bs s) = 34 :: ((bs s).flatMap quoteB ++ [34]) := by unfold textT; rw [if_neg hb]
    have HT : Hid (textT (bs s) = 34 :: ((bs s).flatMap quoteB ++ [34])) := ht
    have hb' : bareW (bs s) = false := by simpa using hb
    rw [hb'] at hW
    clear hb ht hb'
    obtain ⟨i0, hi, hz0, hz1, hz2⟩ := info_parts Tryd.info5
    have o1 : (w.alloc (.cells #[.int .u8 34] 5)).ownsRow w.heap.size 5 1 (.slice (some ⟨w.heap.size, 0, none⟩) 1 1) 1 (([34] : By).map ub) := World.ownsRow_lit w #[.int .u8 34] 1 (Nat.le_refl _) (by decide) rfl
    have HO1 : Hid ((w.alloc (.cells #[.int .u8 34] 5)).ownsRow w.heap.size 5 1 (.slice (some ⟨w.heap.size, 0, none⟩) 1 1) 1 (([34] : By).map ub)) := o1
    clear o1
    go_enter Tryd.func9, Tryd.ntmps9
    go_wp2_with fail
    refine hW.mono ?_
    rintro e w1 ⟨rfl, hw1⟩
    subst w1
    clear hW
    go_wp2_with fail
    go_loopw [3, 4, 12] (fun wd i k wr => ∃ q n : Nat, q ≤ s.size ∧ k = .int .i64 q ∧ wr.ownsRow w.heap.size 5 1 wd n ((34 :: ((bs s).take q).flatMap quoteB).map ub) ∧ Below w.heap.size w wr) (fun _ _ k _ => s.size - (intOf k).toNat)
    case atStart => exact ⟨0, 1, Nat.zero_le _, rfl, HO1.out, (Below.refl _ w).alloc (Nat.le_refl _) _⟩
    case round =>
      obtain ⟨q, n, hq, rfl, hO, hB⟩ := hrel
      obtain ⟨ao, cc, rfl⟩ := own_slice hO
      have hn : n = 1 + (((bs s).take q).flatMap quoteB).length := by have := hO.1; rw [List.length_map, List.length_cons] at this; omega
      have hn4 : (((bs s).take q).flatMap quoteB).length ≤ 4 * q := by
        have := quotes_len ((bs s).take q)
        rw [List.length_take, size_bs] at this
        omega
      have hnb : n ≤ 1 + 4 * s.size := by omega
      clear hn hn4
      have HO : Hid (wr.ownsRow w.heap.size 5 1 (.slice ao n cc) n ((34 :: ((bs s).take q).flatMap quoteB).map ub)) := hO
      have HB : Hid (Below w.heap.size w wr) := hB
      have hws : w.heap.size ≤ wr.heap.size := hB.size
      clear hO hB HO1
      by_cases hlt : q < s.size
      · obtain ⟨b, hb⟩ : ∃ b, s[q]'hlt = b := ⟨_, rfl⟩
        have hT := bs_take s q hlt
        rw [hb] at hT
        have HT2 : Hid ((bs s).take (q + 1) = (bs s).take q ++ [b]) := hT
        clear hT
        have hA := appendQuoted_any (.slice ao n cc) n w.heap.size (34 :: ((bs s).take q).flatMap quoteB) b wr HO.out hws (by omega)
        go_wp2_with fail
        refine hA.mono ?_
        rintro e w2 ⟨v', rfl, ho2, b2⟩
        have HO2 : Hid (w2.ownsRow w.heap.size 5 1 v' (n + (quoteB b).length) ((34 :: ((bs s).take q).flatMap quoteB ++ quoteB b).map ub)) := ho2
        have HB2 : Hid (Below w.heap.size wr w2) := b2
        clear hA ho2 b2
        go_wp2_with fail
        go_roundw
        case rel =>
          refine ⟨q + 1, n + (quoteB b).length, by omega, by go_num, ?_, HB.out.trans HB2.out⟩
          have := HO2.out
          rw [HT2.out, List.flatMap_append]
          simpa using this
        case measure => simp [intOf]; omega
      · obtain rfl : q = s.size := by omega
        have hO2 : wr.ownsRow w.heap.size 5 1 (.slice ao n cc) n ((34 :: (bs s).flatMap quoteB).map ub) := by
          have := HO.out
          rwa [List.take_of_length_le (by rw [size_bs]; exact Nat.le_refl _)] at this
        have HO2 : Hid (wr.ownsRow w.heap.size 5 1 (.slice ao n cc) n ((34 :: (bs s).flatMap quoteB).map ub)) := hO2
        clear hO2 HO
        go_wp2_with (first | (at_builtin; refine wpList_append_lies _ rfl (.tmp 21) (.tmp 22) 23 rfl w.heap.size 5 i0 (.int .u8 0) 1 1 Tryd.underlying23 hi hz0 hz1 hz2 rfl (by decide) _ n _ rfl (HO2.out.alloc _) ⟨wr.heap.size, 0, none⟩ 1 1 [.int .u8 34] rfl rfl (World.news_of_block (heap_alloc_new _ _)) (by intro u hu; simp at hu; rcases hu with rfl; rfl) (by decide) (by unfold maxLen; omega) (by omega) (by simp; omega) _ rfl ?_; intro gC cC wC hoC hgC hatC hltC; have hoC2 : wC.ownsRow w.heap.size 5 1 (.slice (some ⟨gC, 0, none⟩) (n + 1) cC) (n + 1) ((34 :: ((bs s).flatMap quoteB ++ [34])).map ub) := (by rw [← List.cons_append, List.map_append]; exact hoC); have hcv := conv_row hoC2; have HG : Hid (Below w.heap.size wr wC) := grown_B HO2.out hws ((Below.refl _ wr).alloc (Nat.le_refl _) _) hgC; clear hoC hgC hatC hltC hoC2) | fail)
        go_ret
        exact ⟨by rw [HT.out]; rfl, HB.out.trans HG.out⟩
end Go.Proofs.YtjkmdacgiebbfaaDoor
