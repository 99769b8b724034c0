/- The program's getCallText, callText, PrintCall. -/
import Derived.Test.YtjkmdacgiebbfaaDoorW7
namespace Go.Proofs.YtjkmdacgiebbfaaDoor
open Go.RowKit Go.Sort
set_option maxRecDepth 100000

set_option maxHeartbeats 2000000 in
theorem getText_any (c : Cl) (x : UInt8) (hx : isL x) (h4 : ¬ prgK x ≤ 4) (w : World) (hD : c.Lies w) : Calls Tryd.prog 43 #[c.val, .int .i32 (x.toNat : Int)] w fun e w' => e = .returned (.string (tx (c.textK (prgK x)))) ∧ Below w.heap.size w w' := by
  have hb : Below w.heap.size w (w.alloc (.cells c.vals 25)) := (Below.refl _ w).alloc (Nat.le_refl _) _
  have hcv := conv_B (hD.below hb)
  have hX := Bx.new w c
  obtain ⟨d0, d1, d2, d3, d4, d5, d6, d7, d8⟩ := hX.cells
  have HB := Lib.hid hb
  clear hb hX hD
  unfold Cl.val
  rcases isL_text x hx h4 with rfl | rfl | rfl | rfl
  · go_enter Tryd.func43, Tryd.ntmps43
    go_wp2_with fail
    go_ret
    exact ⟨by show Ending.returned (Value.string c.path) = Ending.returned (Value.string (tx (bs c.path))); rw [tx_bs], HB.out⟩
  · go_enter Tryd.func43, Tryd.ntmps43
    go_wp2_with fail
    go_ret
    exact ⟨by show Ending.returned (Value.string c.name) = Ending.returned (Value.string (tx (bs c.name))); rw [tx_bs], HB.out⟩
  · go_enter Tryd.func43, Tryd.ntmps43
    go_wp2_with fail
    go_ret
    exact ⟨by show Ending.returned (Value.string c.name2) = Ending.returned (Value.string (tx (bs c.name2))); rw [tx_bs], HB.out⟩
  · go_enter Tryd.func43, Tryd.ntmps43
    go_wp2_with fail
    go_ret
    exact ⟨rfl, HB.out⟩

def Cl.ints (c : Cl) : Prop := isI c.op ∧ isI c.h ∧ isI c.h2 ∧ isI c.off ∧ isI c.len
theorem num_isI (c : Cl) (hi : c.ints) (k : Nat) : isI (c.numK k) := by
  obtain ⟨_, h1, h2, h3, h4⟩ := hi
  unfold Cl.numK
  split <;> first | assumption | exact ⟨by decide, by decide⟩
theorem textT_len (l : By) : (textT l).length ≤ 4 * l.length + 2 := by
  unfold textT
  split
  · omega
  · have := quotes_len l
    rw [List.length_cons, List.length_append, List.length_singleton]
    omega
theorem textK_len (c : Cl) (hs : c.small) (k : Nat) : (c.textK k).length ≤ 1048576 := by
  obtain ⟨h1, h2, h3, h4⟩ := hs
  unfold Cl.textK
  split <;> first | (rw [size_bs]; assumption) | assumption
theorem word_len (c : Cl) (hs : c.small) (hi : c.ints) (k : Nat) : (c.wordK k).length ≤ 4194306 := by
  unfold Cl.wordK
  split
  · have := Lib.itoa_length_le (c.numK k) (num_isI c hi k).1 (num_isI c hi k).2
    omega
  · have := textT_len (c.textK k)
    have := textK_len c hs k
    omega
/-- The words of some fields. -/
def Cl.wordsK (c : Cl) (ks : List Nat) : By := ks.flatMap fun k => 32 :: c.wordK k
theorem words_len (c : Cl) (hs : c.small) (hi : c.ints) (ks : List Nat) : (c.wordsK ks).length ≤ 4194307 * ks.length := by
  induction ks with
  | nil => simp [Cl.wordsK]
  | cons k ks ih =>
    have := word_len c hs hi k
    unfold Cl.wordsK at ih ⊢
    rw [List.flatMap_cons, List.length_append, List.length_cons, List.length_cons]
    omega
theorem words_snoc (c : Cl) (ks : List Nat) (k : Nat) : c.wordsK (ks ++ [k]) = c.wordsK ks ++ 32 :: c.wordK k := by
  unfold Cl.wordsK
  rw [List.flatMap_append]
  simp
theorem name_len (op : Int) : (nameOf op).length ≤ 7 := by
  by_cases h : 1 ≤ op ∧ op ≤ 10
  · rcases op_cases h with rfl | rfl | rfl | rfl | rfl | rfl | rfl | rfl | rfl | rfl <;> decide
  · rw [(letters_none op h).2.2.1]; decide
theorem form_len (op : Int) : (formOf op).length ≤ 4 := by
  by_cases h : 1 ≤ op ∧ op ≤ 10
  · rcases op_cases h with rfl | rfl | rfl | rfl | rfl | rfl | rfl | rfl | rfl | rfl <;> decide
  · rw [(letters_none op h).2.1]; decide

set_option maxHeartbeats 4000000 in
theorem callText_any (c : Cl) (hs : c.small) (hi : c.ints) (w : World) (hD : c.Lies w) (hG : Gl w) : Calls Tryd.prog 29 #[c.val] w fun e w' => e = .returned (.string (tx c.text)) ∧ Below w.heap.size w w' := by
  have hB0 := Bx.new w c
  have b1 : Below w.heap.size w (w.alloc (.cells c.vals 25)) := (Below.refl _ w).alloc (Nat.le_refl _) _
  have hR := callOf_any c.op (w.alloc (.cells c.vals 25)) (hG.here b1)
  have c0 := hB0.cells.1
  obtain ⟨hLt, hLf⟩ := letters_ok c.op
  have hLf2 : (bs (tx (lettersOf c.op))).map prgK = formOf c.op := by rw [bs_tx]; exact hLf
  have hLt2 : ∀ x ∈ bs (tx (lettersOf c.op)), isL x := by rw [bs_tx]; exact hLt
  have hsl : (tx (lettersOf c.op)).size ≤ 4 := by
    have := form_len c.op
    rw [← hLf2, List.length_map, size_bs] at this
    exact this
  have HLf2 := Lib.hid hLf2
  have HLt2 := Lib.hid hLt2
  have HX0 := Lib.hid hB0
  have HB1 := Lib.hid b1
  have HD := Lib.hid hD
  have HG := Lib.hid hG
  clear hLf2 hLt2 hLf hLt hB0 b1 hD hG
  unfold Cl.val
  have hv : c.vals.size = 9 := rfl
  unfold rowA at hR
  go_enter Tryd.func29, Tryd.ntmps29
  go_wp2_with fail
  refine hR.mono ?_
  rintro e w2 ⟨rfl, b2⟩
  clear hR
  have HX2 := Lib.hid (HX0.out.below b2)
  have HB2 := Lib.hid (HB1.out.trans (b2.mono HB1.out.size))
  clear b2 c0 HX0 HB1
  have HX3 := Lib.hid (HX2.out.below ((Below.refl _ w2).alloc (Nat.le_refl _) (.cells #[.int .i64 (noOf c.op), .string (tx (nameOf c.op)), .string (tx (lettersOf c.op))] 76)))
  have HB3 := Lib.hid (HB2.out.alloc HB2.out.size (.cells #[.int .i64 (noOf c.op), .string (tx (nameOf c.op)), .string (tx (lettersOf c.op))] 76))
  clear HX2 HB2
  go_wp2_with fail
  generalize hs0 : tx (lettersOf c.op) = s at *
  clear hs0
  generalize hw4 : w2.alloc (.cells #[.int .i64 (noOf c.op), .string (tx (nameOf c.op)), .string s] 76) = w4 at *
  have h4s : w4.heap.size = w2.heap.size + 1 := by rw [← hw4]; simp
  have hws : w.heap.size < w4.heap.size := HX3.out.lt
  have hnl := name_len c.op
  go_loopw [4] (fun tv wr => ∃ pos : Nat, pos ≤ s.size ∧ tv = .string (tx (nameOf c.op ++ c.wordsK (((bs s).take pos).map prgK))) ∧ Bx wr w.heap.size c ∧ wr.heap[w2.heap.size + 1]? = some (.stringIter s pos) ∧ Below w.heap.size w wr) (fun _ wr => s.size - wr.iterPos (w2.heap.size + 1))
  case atStart => exact ⟨0, Nat.zero_le _, by simp [Cl.wordsK], HX3.out.below ((Below.refl _ _).alloc (Nat.le_refl _) _), by rw [← h4s]; exact World.iter_heap w4 s 0, HB3.out.alloc HB3.out.size _⟩
  case round =>
    obtain ⟨pos, hpos, rfl, hX, hit, hbw⟩ := hrel
    have hsz : w2.heap.size + 1 < wr.heap.size := (Array.getElem?_eq_some_iff.1 hit).1
    have HX := Lib.hid hX
    have HIT := Lib.hid hit
    have HBW := Lib.hid hbw
    clear hX hbw HX3 HB3
    by_cases hp : pos < s.size
    · have hx : isL (s[pos]'hp) := HLt2.out _ (bs_mem s pos hp)
      have hnx : ∀ ty, (Instr.next (.pointer (some ⟨w2.heap.size + 1, 0, none⟩)) true ty).run Tryd.prog wr = _ := fun ty => Lib.run_next_ascii_at wr (w2.heap.size + 1) s pos ty hit hp (ascii_L _ hx)
      have HT := Lib.hid (bs_step s pos hp)
      generalize s[pos]'hp = x at hx hnx HT
      have hit2 := Lib.hid (Lib.iterAt_heap wr (w2.heap.size + 1) s pos (pos + 1) hit)
      have hX2 : Bx (wr.iterAt (w2.heap.size + 1) s (pos + 1)) w.heap.size c := ⟨(Lib.iterAt_other wr (w2.heap.size + 1) w.heap.size s (pos + 1) (by omega)).trans HX.out.heap⟩
      have HB2 := Lib.hid (Lib.below_iterAt HBW.out (k := w2.heap.size + 1) (by omega) s (pos + 1))
      have hsz1 : w2.heap.size + 1 < (wr.iterAt (w2.heap.size + 1) s (pos + 1)).heap.size := by rw [Lib.iterAt_size]; exact hsz
      have HX2 := Lib.hid hX2
      clear hX2 hit
      generalize wr.iterAt (w2.heap.size + 1) s (pos + 1) = W1 at *
      have hN := callNumber_any w.heap.size x hx W1
      have hg := prgK_ge x
      have hpl : (((bs s).take pos).map prgK).length ≤ 4 := by rw [List.length_map, List.length_take]; omega
      have hl1 := words_len c hs hi (((bs s).take pos).map prgK)
      have hl2 := word_len c hs hi (prgK x)
      have k1 := cat_r ⟨#[32]⟩ (c.wordK (prgK x)) (by simp [ByteArray.size]; omega)
      rw [show bs ⟨#[32]⟩ ++ c.wordK (prgK x) = 32 :: c.wordK (prgK x) from rfl] at k1
      have k2 := cat_tx (nameOf c.op ++ c.wordsK (((bs s).take pos).map prgK)) (32 :: c.wordK (prgK x)) (by rw [List.length_append, List.length_cons]; omega)
      have HW := Lib.hid (show nameOf c.op ++ c.wordsK (((bs s).take (pos + 1)).map prgK) = (nameOf c.op ++ c.wordsK (((bs s).take pos).map prgK)) ++ 32 :: c.wordK (prgK x) by rw [HT.out, words_snoc, List.append_assoc])
      clear hl1 hl2 hpl
      generalize nameOf c.op ++ c.wordsK (((bs s).take pos).map prgK) = T at *
      by_cases h4 : prgK x ≤ 4
      · have hpt : ptrK w.heap.size x = .pointer (some ⟨w.heap.size, prgK x, none⟩) := if_pos h4
        rw [hpt] at hN
        have hce := HX2.out.num (prgK x) hg.1 h4
        have hI := num_isI c hi (prgK x)
        have hA := itoa_any (c.numK (prgK x)) hI.1 hI.2 W1 (HG.out.here HB2.out)
        have hwk : Lib.itoa (c.numK (prgK x)) = c.wordK (prgK x) := (if_pos h4).symm
        rw [hwk] at hA
        clear hpt hwk hI
        go_wp2_with fail
        refine hN.mono ?_
        rintro e w1 ⟨rfl, hw1⟩
        subst w1
        clear hN
        go_wp2_with fail
        refine hA.mono ?_
        rintro e w6 ⟨rfl, b6⟩
        clear hA
        have hit6 := Lib.hid ((b6.block _ hsz1).trans hit2.out)
        have HX6 := Lib.hid (HX2.out.below b6)
        have HB6 := Lib.hid (HB2.out.trans (b6.mono HB2.out.size))
        clear b6
        go_wp2_with fail
        go_roundw
        case rel => exact ⟨pos + 1, by omega, by rw [HW.out], HX6.out, hit6.out, HB6.out⟩
        case measure =>
          simp only [World.iterPos, hit6.out, HIT.out]
          omega
      · have hpt : ptrK w.heap.size x = .pointer none := if_neg h4
        rw [hpt] at hN
        obtain ⟨d0, d1, d2, d3, d4, d5, d6, d7, d8⟩ := HX2.out.cells
        have hA := getText_any c x hx h4 W1 (HD.out.below HB2.out)
        have hTl := textK_len c hs (prgK x)
        have hTx := fun w => Text_any (tx (c.textK (prgK x))) w (by rw [size_tx]; omega)
        have hwk : textT (bs (tx (c.textK (prgK x)))) = c.wordK (prgK x) := by rw [bs_tx]; exact (if_neg h4).symm
        rw [hwk] at hTx
        have HTX := Lib.hid hTx
        unfold Cl.val Cl.vals at hA
        clear hpt hwk hTx hTl
        go_wp2_with fail
        refine hN.mono ?_
        rintro e w1 ⟨rfl, hw1⟩
        subst w1
        clear hN
        go_wp2_with fail
        refine hA.mono ?_
        rintro e w6 ⟨rfl, b6⟩
        clear hA d0 d1 d2 d3 d4 d5 d6 d7 d8
        have hA2 := HTX.out w6
        have hsz6 : w2.heap.size + 1 < w6.heap.size := Nat.lt_of_lt_of_le hsz1 b6.size
        have hit6 := Lib.hid ((b6.block _ hsz1).trans hit2.out)
        have HX6 := Lib.hid (HX2.out.below b6)
        have HB6 := Lib.hid (HB2.out.trans (b6.mono HB2.out.size))
        clear b6
        go_wp2_with fail
        refine hA2.mono ?_
        rintro e w7 ⟨rfl, b7⟩
        clear hA2
        have hit7 := Lib.hid ((b7.block _ hsz6).trans hit6.out)
        have HX7 := Lib.hid (HX6.out.below b7)
        have HB7 := Lib.hid (HB6.out.trans (b7.mono HB6.out.size))
        clear b7
        go_wp2_with fail
        go_roundw
        case rel => exact ⟨pos + 1, by omega, by rw [HW.out], HX7.out, hit7.out, HB7.out⟩
        case measure =>
          simp only [World.iterPos, hit7.out, HIT.out]
          omega
    · have hnx : ∀ ty, (Instr.next (.pointer (some ⟨w2.heap.size + 1, 0, none⟩)) true ty).run Tryd.prog wr = _ := fun ty => Lib.run_next_end_at wr (w2.heap.size + 1) s pos ty hit hp
      obtain rfl : pos = s.size := by omega
      have HE := Lib.hid (show nameOf c.op ++ c.wordsK (((bs s).take s.size).map prgK) = c.text by rw [List.take_of_length_le (by rw [size_bs]; exact Nat.le_refl _), HLf2.out]; rfl)
      clear hit
      go_wp2_with fail
      go_ret
      exact ⟨by rw [← HE.out]; rfl, HBW.out⟩

/-- PrintCall's answer. -/
def Cl.code (c : Cl) : Int := if c.err ≠ 0 then c.err else if 1048576 < c.text.length then 216 else 0
def Cl.said (c : Cl) : By := if c.code ≠ 0 then [] else c.text
set_option maxHeartbeats 2000000 in
theorem printCall_any (c : Cl) (hs : c.small) (hb : c.bytes ≤ 1048576) (hi : c.ints) (w : World) (hD : c.Lies w) (hG : Gl w) : Calls Tryd.prog 17 #[c.val] w fun e w' => e = .returned (.tuple #[.string (tx c.said), .int .i64 c.code]) ∧ Below w.heap.size w w' := by
  have hf : c.form := by
    obtain ⟨ao, cc, h, _⟩ := BAt.form hD
    exact ⟨ao, cc, h⟩
  have hX := Bx.new w c
  have b1 : Below w.heap.size w (w.alloc (.cells c.vals 25)) := (Below.refl _ w).alloc (Nat.le_refl _) _
  obtain ⟨d0, d1, d2, d3, d4, d5, d6, d7, d8⟩ := hX.cells
  have hJ := judge_any c hs hf (w.alloc (.cells c.vals 25)) (hG.here b1)
  have HX := Lib.hid hX
  have HB1 := Lib.hid b1
  have HD := Lib.hid hD
  have HG := Lib.hid hG
  have hv : c.vals.size = 9 := rfl
  clear hX b1 hD hG
  have HV := Lib.hid (show c.val = .agg #[.int .i64 c.op, .int .i64 c.h, .int .i64 c.h2, .int .i64 c.off, .int .i64 c.len, .string c.path, .string c.name, .string c.name2, c.dv] from rfl)
  rw [HV.out] at hJ
  unfold Cl.val
  go_enter Tryd.func17, Tryd.ntmps17
  go_wp2_with fail
  refine hJ.mono ?_
  rintro e w2 ⟨rfl, b2⟩
  clear hJ d0 d1 d2 d3 d4 d5 d6 d7 d8
  have HX2 := Lib.hid (HX.out.below b2)
  have HB2 := Lib.hid (HB1.out.trans (b2.mono HB1.out.size))
  clear b2 HX HB1
  by_cases he : c.err = 0
  · rw [he]
    have HE := Lib.hid he
    clear he
    obtain ⟨d0, d1, d2, d3, d4, d5, d6, d7, d8⟩ := HX2.out.cells
    have hY := bytesOf_any c hs hf w2
    rw [HV.out] at hY
    have hbi : (c.bytes : Int) ≤ 1048576 := by omega
    go_wp2_with fail
    refine hY.mono ?_
    rintro e w3 ⟨rfl, b3⟩
    clear hY d0 d1 d2 d3 d4 d5 d6 d7 d8
    have HX3 := Lib.hid (HX2.out.below b3)
    have HB3 := Lib.hid (HB2.out.trans (b3.mono HB2.out.size))
    clear b3 HX2 HB2
    obtain ⟨d0, d1, d2, d3, d4, d5, d6, d7, d8⟩ := HX3.out.cells
    have hT := callText_any c hs hi w3 (HD.out.below HB3.out) (HG.out.here HB3.out)
    rw [HV.out] at hT
    go_wp2_with fail
    refine hT.mono ?_
    rintro e w4 ⟨rfl, b4⟩
    clear hT d0 d1 d2 d3 d4 d5 d6 d7 d8
    have HB4 := Lib.hid (HB3.out.trans (b4.mono HB3.out.size))
    have hsz := size_tx c.text
    clear b4
    by_cases hl : 1048576 < c.text.length
    · have hc : c.code = 216 := by unfold Cl.code; rw [if_neg (by rw [HE.out]; simp), if_pos hl]
      have hs : c.said = [] := by unfold Cl.said; rw [if_pos (by rw [hc]; decide)]
      have HC := Lib.hid hc
      have HS := Lib.hid hs
      have hli : (1048576 : Int) < (c.text.length : Int) := by omega
      clear hc hs hl hsz
      go_wp2_with fail
      go_ret2
      exact ⟨by rw [HC.out, HS.out]; rfl, HB4.out⟩
    · have hc : c.code = 0 := by unfold Cl.code; rw [if_neg (by rw [HE.out]; simp), if_neg hl]
      have hs : c.said = c.text := by unfold Cl.said; rw [if_neg (by rw [hc]; decide)]
      have HC := Lib.hid hc
      have HS := Lib.hid hs
      have hli : (c.text.length : Int) ≤ 1048576 := by omega
      clear hc hs hl hsz
      go_wp2_with fail
      go_ret2
      exact ⟨by rw [HC.out, HS.out]; rfl, HB4.out⟩
  · have hc : c.code = c.err := by unfold Cl.code; rw [if_pos he]
    have hs : c.said = [] := by unfold Cl.said; rw [if_pos (by rw [hc]; exact he)]
    have hne : (c.err != 0) = true := by simpa using he
    have HC := Lib.hid hc
    have HS := Lib.hid hs
    clear hc hs he
    go_wp2_with fail
    go_ret2
    exact ⟨by rw [HC.out, HS.out]; rfl, HB2.out⟩
end Go.Proofs.YtjkmdacgiebbfaaDoor
