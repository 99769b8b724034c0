/- The program's judgeCall. -/
import Derived.Test.YtjkmdacgiebbfaaDoorW6
import Derived.Laws.IdiomStrings
namespace Go.Proofs.YtjkmdacgiebbfaaDoor
open Go.RowKit Go.Sort
set_option maxRecDepth 100000

theorem conv_B {w : World} {v : Value} {l : By} (h : BAt w v l) : (convert 23 9 v).run Tryd.prog w = .ok (.string (tx l)) w := by
  obtain ⟨ao, c, rfl, h1, h2⟩ := h.form
  cases ao with
  | none =>
    have := h2 rfl
    subst this
    exact run_convert_bytes_nil (P := Tryd.prog) w 23 5 Tryd.underlying23 Tryd.underlying5 0 c 9 Tryd.underlying9
  | some ad => exact run_convert_bytes_back (P := Tryd.prog) w 23 9 5 ad c l Tryd.underlying23 Tryd.underlying5 Tryd.underlying9 (fun j hj => h1 ad rfl j hj)

theorem mayBe_any (n : Int) (w : World) : Calls Tryd.prog 42 #[.int .i64 n] w fun e w' => e = .returned (.bool (okN n)) ∧ w' = w := by
  by_cases h1 : 0 ≤ n
  · by_cases h2 : n ≤ 1073741824
    · have ho : okN n = true := by simp [okN, h1, h2]
      rw [ho]
      go_enter Tryd.func42, Tryd.ntmps42
      go_wp2
      go_ret
      exact ⟨rfl, rfl⟩
    · have ho : okN n = false := by simp [okN, h2]
      rw [ho]
      go_enter Tryd.func42, Tryd.ntmps42
      go_wp2
      go_ret
      exact ⟨rfl, rfl⟩
  · have ho : okN n = false := by simp [okN, h1]
    rw [ho]
    go_enter Tryd.func42, Tryd.ntmps42
    go_wp2
    go_ret
    exact ⟨rfl, rfl⟩

def Cl.bad (c : Cl) (ks : List Nat) : Bool := ks.any fun k => decide (k ≤ 4) && !okN (c.numK k)
theorem err_eq (c : Cl) : c.err = if c.op < 1 ∨ 10 < c.op then 212 else if (c.clear (formOf c.op)).left = true then 218 else if c.bad (formOf c.op) = true then 213 else 0 := rfl
theorem bad_snoc (c : Cl) (ks : List Nat) (k : Nat) : c.bad (ks ++ [k]) = (c.bad ks || (decide (k ≤ 4) && !okN (c.numK k))) := by
  unfold Cl.bad
  rw [List.any_append]
  simp
theorem bad_of {c : Cl} {ks : List Nat} {k : Nat} (h : k ∈ ks) (hb : (decide (k ≤ 4) && !okN (c.numK k)) = true) : c.bad ks = true := List.any_eq_true.2 ⟨k, h, hb⟩
theorem Bx.num {w : World} {b : Nat} {c : Cl} (h : Bx w b c) (k : Nat) (h1 : 1 ≤ k) (h4 : k ≤ 4) : w.cell? ⟨b, k, none⟩ = some (.int .i64 (c.numK k)) := by
  match k, h1, h4 with
  | 1, _, _ => exact h.cell 1 _ rfl
  | 2, _, _ => exact h.cell 2 _ rfl
  | 3, _, _ => exact h.cell 3 _ rfl
  | 4, _, _ => exact h.cell 4 _ rfl
theorem no_out {op : Int} (h : op < 1 ∨ 10 < op) : noOf op = 0 := if_neg (by omega)
theorem no_in {op : Int} (h : ¬ (op < 1 ∨ 10 < op)) : noOf op = op := if_pos (by omega)
theorem bs_mem (s : ByteArray) (q : Nat) (h : q < s.size) : s[q]'h ∈ bs s := by rw [← bs_at s q h]; exact List.getElem_mem _

set_option maxHeartbeats 4000000 in
theorem judge_any (c : Cl) (hs : c.small) (hf : c.form) (w : World) (hG : Gl w) : Calls Tryd.prog 27 #[c.val] w fun e w' => e = .returned (.int .i64 c.err) ∧ Below w.heap.size w w' := by
  have hB0 := Bx.new w c
  have b1 : Below w.heap.size w (w.alloc (.cells c.vals 25)) := (Below.refl _ w).alloc (Nat.le_refl _) _
  have hR := callOf_any c.op (w.alloc (.cells c.vals 25)) (hG.here b1)
  have c0 := hB0.cells.1
  obtain ⟨hLt, hLf⟩ := letters_ok c.op
  have HLt := Lib.hid hLt
  have HLf := Lib.hid hLf
  have HX0 := Lib.hid hB0
  have HB1 := Lib.hid b1
  clear hLt hLf hB0 b1
  unfold Cl.val
  have hv : c.vals.size = 9 := rfl
  unfold rowA at hR
  go_enter Tryd.func27, Tryd.ntmps27
  go_wp2_with fail
  refine hR.mono ?_
  rintro e w2 ⟨rfl, b2⟩
  clear hR
  have HX2 := Lib.hid (HX0.out.below b2)
  have HB2 := Lib.hid (HB1.out.trans (b2.mono HB1.out.size))
  clear b2 c0 HX0 HB1
  by_cases hop : c.op < 1 ∨ 10 < c.op
  · have he : c.err = 212 := if_pos hop
    have hno := no_out hop
    rw [hno]
    have HE := Lib.hid he
    clear he hop hno
    go_wp2_with fail
    go_ret
    exact ⟨by rw [HE.out]; rfl, HB2.out.alloc HB2.out.size _⟩
  · have hno := no_in hop
    have hne : (c.op == 0) = false := by rw [beq_eq_false_iff_ne]; omega
    have hRl : rowA c.op = #[.int .i64 c.op, .string (tx (nameOf c.op)), .string (tx (lettersOf c.op))] := by unfold rowA; rw [hno]
    have hX3 := HX2.out.below ((Below.refl _ w2).alloc (Nat.le_refl _) (.cells #[.int .i64 c.op, .string (tx (nameOf c.op)), .string (tx (lettersOf c.op))] 76))
    have hS := spare_any c hs hf (tx (lettersOf c.op)) (by rw [bs_tx]; exact HLt.out) (w2.alloc (.cells #[.int .i64 c.op, .string (tx (nameOf c.op)), .string (tx (lettersOf c.op))] 76))
    rw [bs_tx, HLf.out] at hS
    unfold Cl.val Cl.vals at hS
    obtain ⟨d0, d1, d2, d3, d4, d5, d6, d7, d8⟩ := hX3.cells
    have hr2 : (w2.alloc (.cells #[.int .i64 c.op, .string (tx (nameOf c.op)), .string (tx (lettersOf c.op))] 76)).cell? ⟨w2.heap.size, 2, none⟩ = some (.string (tx (lettersOf c.op))) := by rw [Lib.cell_of_heap (heap_alloc_new _ _)]; rfl
    have hRs : w2.heap.size < (w2.alloc (.cells #[.int .i64 c.op, .string (tx (nameOf c.op)), .string (tx (lettersOf c.op))] 76)).heap.size := by simp
    have HB3 := Lib.hid (HB2.out.alloc HB2.out.size (.cells #[.int .i64 c.op, .string (tx (nameOf c.op)), .string (tx (lettersOf c.op))] 76))
    have HX3 := Lib.hid hX3
    have HR2 := Lib.hid hr2
    have HE := Lib.hid (err_eq c)
    have HOP := Lib.hid hop
    rw [hno]
    clear hRl hno hX3 hr2 HX2 HB2 hop
    go_wp2_with fail
    refine hS.mono ?_
    rintro e w4 ⟨rfl, b4⟩
    clear hS d0 d1 d2 d3 d4 d5 d6 d7 d8
    have HX4 := Lib.hid (HX3.out.below b4)
    have HB4 := Lib.hid (HB3.out.trans (b4.mono HB3.out.size))
    have r2 := (b4.cell (p := ⟨w2.heap.size, 2, none⟩) hRs).trans HR2.out
    clear HX3 HB3 HR2 b4 hRs
    rcases Bool.eq_false_or_eq_true ((c.clear (formOf c.op)).left) with hl | hl
    · have hl2 := hl
      rw [hl]
      go_wp2_with fail
      go_ret
      exact ⟨by rw [HE.out, if_neg HOP.out, if_pos hl2]; rfl, HB4.out⟩
    · have HL2 := Lib.hid hl
      rw [hl]
      clear hl
      go_wp2_with fail
      have hws : w.heap.size < w4.heap.size := HX4.out.lt
      have hLf2 : (bs (tx (lettersOf c.op))).map prgK = formOf c.op := by rw [bs_tx]; exact HLf.out
      have hLt2 : ∀ x ∈ bs (tx (lettersOf c.op)), isL x := by rw [bs_tx]; exact HLt.out
      have HLf2 := Lib.hid hLf2
      have HLt2 := Lib.hid hLt2
      clear hLf2 hLt2 HLf HLt
      generalize hs0 : tx (lettersOf c.op) = s at *
      clear hs0
      go_loopw [] (fun wr => ∃ pos : Nat, pos ≤ s.size ∧ Bx wr w.heap.size c ∧ wr.heap[w4.heap.size]? = some (.stringIter s pos) ∧ Below w.heap.size w wr ∧ c.bad (((bs s).take pos).map prgK) = false) (fun wr => s.size - wr.iterPos w4.heap.size)
      case atStart => exact ⟨0, Nat.zero_le _, HX4.out.below ((Below.refl _ _).alloc (Nat.le_refl _) _), World.iter_heap w4 s 0, HB4.out.alloc HB4.out.size _, rfl⟩
      case round =>
        obtain ⟨pos, hpos, hX, hit, hbw, hbad⟩ := hrel
        have hsz : w4.heap.size < wr.heap.size := (Array.getElem?_eq_some_iff.1 hit).1
        have HX := Lib.hid hX
        have HIT := Lib.hid hit
        have HBW := Lib.hid hbw
        have HBD := Lib.hid hbad
        clear hX hbw hbad HX4 HB4
        by_cases hp : pos < s.size
        · have hx : isL (s[pos]'hp) := HLt2.out _ (bs_mem s pos hp)
          have hnx : ∀ ty, (Instr.next (.pointer (some ⟨w4.heap.size, 0, none⟩)) true ty).run Tryd.prog wr = _ := fun ty => Lib.run_next_ascii_at wr w4.heap.size s pos ty hit hp (ascii_L _ hx)
          have HT := Lib.hid (bs_step s pos hp)
          have HM := Lib.hid (show prgK (s[pos]'hp) ∈ formOf c.op by rw [← HLf2.out]; exact List.mem_map_of_mem (bs_mem s pos hp))
          generalize s[pos]'hp = x at hx hnx HT HM
          have hit2 := Lib.hid (Lib.iterAt_heap wr w4.heap.size s pos (pos + 1) hit)
          have hX2 : Bx (wr.iterAt w4.heap.size s (pos + 1)) w.heap.size c := ⟨(Lib.iterAt_other wr w4.heap.size w.heap.size s (pos + 1) (by omega)).trans HX.out.heap⟩
          have HB2 := Lib.hid (Lib.below_iterAt HBW.out (k := w4.heap.size) (by omega) s (pos + 1))
          have HX2 := Lib.hid hX2
          clear hX2 hit
          generalize wr.iterAt w4.heap.size s (pos + 1) = W1 at *
          have hN := callNumber_any w.heap.size x hx W1
          have hg := prgK_ge x
          by_cases h4 : prgK x ≤ 4
          · have hpt : ptrK w.heap.size x = .pointer (some ⟨w.heap.size, prgK x, none⟩) := if_pos h4
            rw [hpt] at hN
            have hce := HX2.out.num (prgK x) hg.1 h4
            have hM := mayBe_any (c.numK (prgK x)) W1
            clear hpt
            go_wp2_with fail
            refine hN.mono ?_
            rintro e w1 ⟨rfl, hw1⟩
            subst w1
            clear hN
            go_wp2_with fail
            refine hM.mono ?_
            rintro e w1 ⟨rfl, hw1⟩
            subst w1
            clear hM
            rcases Bool.eq_false_or_eq_true (okN (c.numK (prgK x))) with ho | ho
            · have HO := Lib.hid ho
              rw [ho]
              clear ho
              go_wp2_with fail
              go_roundw
              case rel => exact ⟨pos + 1, by omega, HX2.out, hit2.out, HB2.out, by rw [HT.out, bad_snoc, HBD.out, HO.out]; simp⟩
              case measure =>
                simp only [World.iterPos, hit2.out, HIT.out]
                omega
            · have HO := Lib.hid ho
              rw [ho]
              clear ho
              go_wp2_with fail
              go_ret
              exact ⟨by rw [HE.out, if_neg HOP.out, if_neg (by rw [HL2.out]; decide), if_pos (bad_of HM.out (by rw [HO.out]; simp [h4]))]; rfl, HB2.out⟩
          · have hpt : ptrK w.heap.size x = .pointer none := if_neg h4
            rw [hpt] at hN
            clear hpt
            go_wp2_with fail
            refine hN.mono ?_
            rintro e w1 ⟨rfl, hw1⟩
            subst w1
            clear hN
            go_wp2_with fail
            go_roundw
            case rel => exact ⟨pos + 1, by omega, HX2.out, hit2.out, HB2.out, by rw [HT.out, bad_snoc, HBD.out]; simp [h4]⟩
            case measure =>
              simp only [World.iterPos, hit2.out, HIT.out]
              omega
        · have hnx : ∀ ty, (Instr.next (.pointer (some ⟨w4.heap.size, 0, none⟩)) true ty).run Tryd.prog wr = _ := fun ty => Lib.run_next_end_at wr w4.heap.size s pos ty hit hp
          obtain rfl : pos = s.size := by omega
          have hb := HBD.out
          rw [List.take_of_length_le (by rw [size_bs]; exact Nat.le_refl _), HLf2.out] at hb
          have HBB := Lib.hid hb
          clear hb hit
          go_wp2_with fail
          go_ret
          exact ⟨by rw [HE.out, if_neg HOP.out, if_neg (by rw [HL2.out]; decide), if_neg (by rw [HBB.out]; decide)]; rfl, HBW.out⟩
end Go.Proofs.YtjkmdacgiebbfaaDoor
