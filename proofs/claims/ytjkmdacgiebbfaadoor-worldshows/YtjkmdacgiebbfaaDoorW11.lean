/- The document's callText. -/
import Derived.Test.YtjkmdacgiebbfaaDoorW9
namespace Go.Proofs.YtjkmdacgiebbfaaDoor
open Go.RowKit Go.Sort
set_option maxRecDepth 100000

theorem name_cell (m : Nat) (h : 1 ≤ m ∧ m ≤ 10) : nameCells[m]? = some (.string (tx (nameOf m))) ∧ formCells[m]? = some (.string (tx (docOf m))) := by
  obtain ⟨h1, h2⟩ := h
  have : m = 1 ∨ m = 2 ∨ m = 3 ∨ m = 4 ∨ m = 5 ∨ m = 6 ∨ m = 7 ∨ m = 8 ∨ m = 9 ∨ m = 10 := by omega
  rcases this with rfl | rfl | rfl | rfl | rfl | rfl | rfl | rfl | rfl | rfl <;> exact ⟨rfl, rfl⟩
def isDb (x : UInt8) : Bool := x == 104 || x == 103 || x == 111 || x == 108 || x == 112 || x == 110 || x == 109 || x == 100
theorem isD_of (x : UInt8) (h : isDb x = true) : x = 104 ∨ x = 103 ∨ x = 111 ∨ x = 108 ∨ x = 112 ∨ x = 110 ∨ x = 109 ∨ x = 100 := by
  simp only [isDb, Bool.or_eq_true, beq_iff_eq] at h
  rcases h with ((((((h | h) | h) | h) | h) | h) | h) | h <;> simp [h]
theorem bs_stepD (s : ByteArray) (q : Nat) (h : q < s.size) : ((bs s).take (q + 1)).map docK = ((bs s).take q).map docK ++ [docK (s[q]'h)] := by
  rw [bs_take s q h, List.map_append]; rfl

set_option maxHeartbeats 8000000 in
theorem rcallText_any (c : Cl) (hop : 1 ≤ c.op ∧ c.op ≤ 10) (hs : c.small) (hi : c.ints) (w : World) (hD : c.Lies w) (hG : Gl w) : Calls Tryd.prog 37 #[c.val] w fun e w' => e = .returned (.string (tx c.text)) ∧ Below w.heap.size w w' := by
  have hX0 := Bx.new w c
  have b1 : Below w.heap.size w (w.alloc (.cells c.vals 25)) := (Below.refl _ w).alloc (Nat.le_refl _) _
  obtain ⟨hdk, hdl⟩ := docs_ok c.op hop
  have hG1 := hG.here b1
  have d0 := hX0.cells.1
  obtain ⟨m, hm⟩ : ∃ m : Nat, c.op = (m : Int) := ⟨c.op.toNat, by omega⟩
  have hm1 : 1 ≤ m ∧ m ≤ 10 := by omega
  obtain ⟨n1, n2⟩ := name_cell m hm1
  have g1 : (w.alloc (.cells c.vals 25)).cell? ⟨1, m, none⟩ = some (.string (tx (nameOf c.op))) := by rw [hm]; exact (World.var?_cell gn_names hG1.names m).trans n1
  have g2 : (w.alloc (.cells c.vals 25)).cell? ⟨0, m, none⟩ = some (.string (tx (docOf c.op))) := by rw [hm]; exact (World.var?_cell gn_forms hG1.forms m).trans n2
  have hLk : (bs (tx (docOf c.op))).map docK = formOf c.op := by rw [bs_tx]; exact hdk
  have hLd : ∀ x ∈ bs (tx (docOf c.op)), isDb x = true := by rw [bs_tx]; exact fun x hx => List.all_eq_true.1 hdl x hx
  have hsl : (tx (docOf c.op)).size ≤ 4 := by
    have := form_len c.op
    rw [← hLk, List.length_map, size_bs] at this
    exact this
  have hmi : (m : Int) ≤ 10 := by omega
  have hmi1 : (1 : Int) ≤ m := by omega
  have HLk := Lib.hid hLk
  have HLd := Lib.hid hLd
  have HX0 := Lib.hid hX0
  have HB1 := Lib.hid b1
  have HD := Lib.hid hD
  have HG := Lib.hid hG
  have hv : c.vals.size = 9 := rfl
  have hnl := name_len c.op
  rw [hm] at d0
  unfold Cl.val
  clear hLk hLd hX0 b1 hD hG hG1 n1 n2 hdk hdl
  generalize hs0 : tx (docOf c.op) = s at *
  clear hs0
  have hsi : (s.size : Int) ≤ 4 := by omega
  go_enter Tryd.func37, Tryd.ntmps37
  go_wp2_with fail
  go_loopw [3, 5] (fun tv k wr => ∃ q : Nat, q ≤ s.size ∧ k = .int .i64 q ∧ tv = .string (tx (nameOf c.op ++ c.wordsK (((bs s).take q).map docK))) ∧ Bx wr w.heap.size c ∧ Below w.heap.size w wr) (fun _ k _ => s.size - (intOf k).toNat)
  case atStart => exact ⟨0, Nat.zero_le _, rfl, by rw [hm]; simp [Cl.wordsK], HX0.out, HB1.out⟩
  case round =>
    obtain ⟨q, hq, rfl, rfl, hX, hbw⟩ := hrel
    have HX := Lib.hid hX
    have HBW := Lib.hid hbw
    clear hX hbw HX0 HB1 g1 g2 d0
    by_cases hlt : q < s.size
    · obtain ⟨x, hx⟩ : ∃ x, s[q]'hlt = x := ⟨_, rfl⟩
      have HT := Lib.hid (hx ▸ bs_stepD s q hlt)
      have hd := isD_of x (HLd.out _ (hx ▸ bs_mem s q hlt))
      have hpl : (((bs s).take q).map docK).length ≤ 4 := by rw [List.length_map, List.length_take]; omega
      have hl1 := words_len c hs hi (((bs s).take q).map docK)
      have hl2 := word_len c hs hi (docK x)
      have k1 := cat_l (nameOf c.op ++ c.wordsK (((bs s).take q).map docK)) ⟨#[32]⟩ (by rw [List.length_append, show (⟨#[32]⟩ : ByteArray).size = 1 from rfl]; omega)
      rw [show bs ⟨#[32]⟩ = [32] from rfl] at k1
      have k2 := cat_tx ((nameOf c.op ++ c.wordsK (((bs s).take q).map docK)) ++ [32]) (c.wordK (docK x)) (by rw [List.length_append, List.length_append, List.length_singleton]; omega)
      have HW := Lib.hid (show nameOf c.op ++ c.wordsK (((bs s).take (q + 1)).map docK) = (nameOf c.op ++ c.wordsK (((bs s).take q).map docK)) ++ 32 :: c.wordK (docK x) by rw [HT.out, words_snoc, List.append_assoc])
      clear hl1 hl2 hpl HT
      generalize hTT : nameOf c.op ++ c.wordsK (((bs s).take q).map docK) = T at *
      clear hTT
      obtain ⟨d0, d1, d2, d3, d4, d5, d6, d7, d8⟩ := HX.out.cells
      have hG2 := HG.out.here HBW.out
      have HG2 := Lib.hid hG2
      clear hG2
      rcases hd with rfl | rfl | rfl | rfl | rfl | rfl | rfl | rfl
      · rw [show docK 104 = 1 by decide] at k2 HW
        have hI := num_isI c hi 1
        have hA := itoa_any c.h hI.1 hI.2 wr HG2.out
        rw [show Lib.itoa c.h = c.wordK 1 from rfl] at hA
        clear hI
        go_wp2_with fail
        refine hA.mono ?_
        rintro e w6 ⟨rfl, b6⟩
        clear hA d0 d1 d2 d3 d4 d5 d6 d7 d8
        have HX6 := Lib.hid (HX.out.below b6)
        have HB6 := Lib.hid (HBW.out.trans (b6.mono HBW.out.size))
        clear b6
        go_wp2_with fail
        go_roundw
        case rel => exact ⟨q + 1, by omega, by go_num, by rw [HW.out], HX6.out, HB6.out⟩
        case measure => simp [intOf]; omega
      · rw [show docK 103 = 2 by decide] at k2 HW
        have hI := num_isI c hi 2
        have hA := itoa_any c.h2 hI.1 hI.2 wr HG2.out
        rw [show Lib.itoa c.h2 = c.wordK 2 from rfl] at hA
        clear hI
        go_wp2_with fail
        refine hA.mono ?_
        rintro e w6 ⟨rfl, b6⟩
        clear hA d0 d1 d2 d3 d4 d5 d6 d7 d8
        have HX6 := Lib.hid (HX.out.below b6)
        have HB6 := Lib.hid (HBW.out.trans (b6.mono HBW.out.size))
        clear b6
        go_wp2_with fail
        go_roundw
        case rel => exact ⟨q + 1, by omega, by go_num, by rw [HW.out], HX6.out, HB6.out⟩
        case measure => simp [intOf]; omega
      · rw [show docK 111 = 3 by decide] at k2 HW
        have hI := num_isI c hi 3
        have hA := itoa_any c.off hI.1 hI.2 wr HG2.out
        rw [show Lib.itoa c.off = c.wordK 3 from rfl] at hA
        clear hI
        go_wp2_with fail
        refine hA.mono ?_
        rintro e w6 ⟨rfl, b6⟩
        clear hA d0 d1 d2 d3 d4 d5 d6 d7 d8
        have HX6 := Lib.hid (HX.out.below b6)
        have HB6 := Lib.hid (HBW.out.trans (b6.mono HBW.out.size))
        clear b6
        go_wp2_with fail
        go_roundw
        case rel => exact ⟨q + 1, by omega, by go_num, by rw [HW.out], HX6.out, HB6.out⟩
        case measure => simp [intOf]; omega
      · rw [show docK 108 = 4 by decide] at k2 HW
        have hI := num_isI c hi 4
        have hA := itoa_any c.len hI.1 hI.2 wr HG2.out
        rw [show Lib.itoa c.len = c.wordK 4 from rfl] at hA
        clear hI
        go_wp2_with fail
        refine hA.mono ?_
        rintro e w6 ⟨rfl, b6⟩
        clear hA d0 d1 d2 d3 d4 d5 d6 d7 d8
        have HX6 := Lib.hid (HX.out.below b6)
        have HB6 := Lib.hid (HBW.out.trans (b6.mono HBW.out.size))
        clear b6
        go_wp2_with fail
        go_roundw
        case rel => exact ⟨q + 1, by omega, by go_num, by rw [HW.out], HX6.out, HB6.out⟩
        case measure => simp [intOf]; omega
      · rw [show docK 112 = 5 by decide] at k2 HW
        have hTl := textK_len c hs 5
        have hA := RText_any (tx (c.textK 5)) wr (by rw [size_tx]; omega)
        rw [bs_tx, show textT (c.textK 5) = c.wordK 5 from rfl] at hA
        rw [show tx (c.textK 5) = c.path from tx_bs c.path] at hA
        clear hTl
        go_wp2_with fail
        refine hA.mono ?_
        rintro e w6 ⟨rfl, b6⟩
        clear hA d0 d1 d2 d3 d4 d5 d6 d7 d8
        have HX6 := Lib.hid (HX.out.below b6)
        have HB6 := Lib.hid (HBW.out.trans (b6.mono HBW.out.size))
        clear b6
        go_wp2_with fail
        go_roundw
        case rel => exact ⟨q + 1, by omega, by go_num, by rw [HW.out], HX6.out, HB6.out⟩
        case measure => simp [intOf]; omega
      · rw [show docK 110 = 6 by decide] at k2 HW
        have hTl := textK_len c hs 6
        have hA := RText_any (tx (c.textK 6)) wr (by rw [size_tx]; omega)
        rw [bs_tx, show textT (c.textK 6) = c.wordK 6 from rfl] at hA
        rw [show tx (c.textK 6) = c.name from tx_bs c.name] at hA
        clear hTl
        go_wp2_with fail
        refine hA.mono ?_
        rintro e w6 ⟨rfl, b6⟩
        clear hA d0 d1 d2 d3 d4 d5 d6 d7 d8
        have HX6 := Lib.hid (HX.out.below b6)
        have HB6 := Lib.hid (HBW.out.trans (b6.mono HBW.out.size))
        clear b6
        go_wp2_with fail
        go_roundw
        case rel => exact ⟨q + 1, by omega, by go_num, by rw [HW.out], HX6.out, HB6.out⟩
        case measure => simp [intOf]; omega
      · rw [show docK 109 = 7 by decide] at k2 HW
        have hTl := textK_len c hs 7
        have hA := RText_any (tx (c.textK 7)) wr (by rw [size_tx]; omega)
        rw [bs_tx, show textT (c.textK 7) = c.wordK 7 from rfl] at hA
        rw [show tx (c.textK 7) = c.name2 from tx_bs c.name2] at hA
        clear hTl
        go_wp2_with fail
        refine hA.mono ?_
        rintro e w6 ⟨rfl, b6⟩
        clear hA d0 d1 d2 d3 d4 d5 d6 d7 d8
        have HX6 := Lib.hid (HX.out.below b6)
        have HB6 := Lib.hid (HBW.out.trans (b6.mono HBW.out.size))
        clear b6
        go_wp2_with fail
        go_roundw
        case rel => exact ⟨q + 1, by omega, by go_num, by rw [HW.out], HX6.out, HB6.out⟩
        case measure => simp [intOf]; omega
      · rw [show docK 100 = 8 by decide] at k2 HW
        have hTl := textK_len c hs 8
        have hA := RText_any (tx (c.textK 8)) wr (by rw [size_tx]; omega)
        rw [bs_tx, show textT (c.textK 8) = c.wordK 8 from rfl] at hA
        have hcv := conv_B (HD.out.below HBW.out)
        rw [show tx c.dl = tx (c.textK 8) from rfl] at hcv
        clear hTl
        go_wp2_with fail
        refine hA.mono ?_
        rintro e w6 ⟨rfl, b6⟩
        clear hA d0 d1 d2 d3 d4 d5 d6 d7 d8
        have HX6 := Lib.hid (HX.out.below b6)
        have HB6 := Lib.hid (HBW.out.trans (b6.mono HBW.out.size))
        clear b6
        go_wp2_with fail
        go_roundw
        case rel => exact ⟨q + 1, by omega, by go_num, by rw [HW.out], HX6.out, HB6.out⟩
        case measure => simp [intOf]; omega
    · obtain rfl : q = s.size := by omega
      have HE := Lib.hid (show nameOf c.op ++ c.wordsK (((bs s).take s.size).map docK) = c.text by rw [List.take_of_length_le (by rw [size_bs]; exact Nat.le_refl _), HLk.out]; rfl)
      go_wp2_with fail
      go_ret
      exact ⟨by rw [← HE.out]; rfl, HBW.out⟩
end Go.Proofs.YtjkmdacgiebbfaaDoor
