/- The program's bytesOfCall, callHasSpare. -/
import Derived.Test.YtjkmdacgiebbfaaDoorW4
namespace Go.Proofs.YtjkmdacgiebbfaaDoor
open Go.RowKit Go.Sort
set_option maxRecDepth 100000

/-- Data lies as a list of so many bytes. -/
def Cl.Lies (c : Cl) (w : World) : Prop := BAt w c.dv c.dl
theorem Cl.Lies.below {c : Cl} {w w' : World} (h : c.Lies w) (hb : Below w.heap.size w w') : c.Lies w' := BAt.below h hb
def Cl.small (c : Cl) : Prop := c.path.size ≤ 1048576 ∧ c.name.size ≤ 1048576 ∧ c.name2.size ≤ 1048576 ∧ c.dl.length ≤ 1048576
def Cl.form (c : Cl) : Prop := ∃ ao cc, c.dv = .slice ao c.dl.length cc

set_option maxHeartbeats 1000000 in
theorem bytesOf_any (c : Cl) (hs : c.small) (hf : c.form) (w : World) : Calls Tryd.prog 28 #[c.val] w fun e w' => e = .returned (.int .i64 (c.bytes : Int)) ∧ Below w.heap.size w w' := by
  obtain ⟨op, h, h2, off, len, path, name, name2, dv, dl⟩ := c
  obtain ⟨ao, cc, hd⟩ := hf
  simp only at hd
  subst hd
  obtain ⟨s1, s2, s3, s4⟩ := hs
  simp only at s1 s2 s3 s4
  have hsum : ((path.size : Int) + name.size + name2.size + (dl.length : Int)) = ((path.size + name.size + name2.size + dl.length : Nat) : Int) := by omega
  have i1 : (path.size : Int) ≤ 1048576 := by omega
  have i2 : (name.size : Int) ≤ 1048576 := by omega
  have i3 : (name2.size : Int) ≤ 1048576 := by omega
  have i4 : (dl.length : Int) ≤ 1048576 := by omega
  have HS := Lib.hid hsum
  clear hsum s1 s2 s3 s4
  unfold Cl.val Cl.vals Cl.bytes
  simp only
  go_enter Tryd.func28, Tryd.ntmps28
  go_wp2_with fail
  go_ret
  exact ⟨by rw [← HS.out]; rfl, (Below.refl _ w).alloc (Nat.le_refl _) _⟩

theorem clear_nil (c : Cl) : c.clear [] = c := by cases c; rfl
theorem clear_op (c : Cl) (ks : List Nat) : (c.clear ks).op = c.op := rfl
theorem prgK_ge (x : UInt8) : 1 ≤ prgK x ∧ prgK x ≤ 8 := by
  unfold prgK
  repeat' split
  all_goals omega
theorem isL_text (x : UInt8) (hx : isL x) (h : ¬ prgK x ≤ 4) : x = 80 ∨ x = 78 ∨ x = 110 ∨ x = 68 := by
  rcases hx with rfl | rfl | rfl | rfl | rfl | rfl | rfl | rfl
  all_goals first | (exact absurd (by decide) h) | decide
theorem clear_step (c : Cl) (ks : List Nat) (k : Nat) (h1 : 1 ≤ k) (h8 : k ≤ 8) :
    (c.clear ks).vals.setIfInBounds k (if k ≤ 4 then .int .i64 0 else if k = 8 then .slice none 0 0 else .string ⟨#[]⟩) = (c.clear (ks ++ [k])).vals := by
  obtain ⟨op, h, h2, off, len, path, name, name2, dv, dl⟩ := c
  match k, h1, h8 with
  | 1, _, _ => simp [Cl.clear, Cl.vals]
  | 2, _, _ => simp [Cl.clear, Cl.vals]
  | 3, _, _ => simp [Cl.clear, Cl.vals]
  | 4, _, _ => simp [Cl.clear, Cl.vals]
  | 5, _, _ => simp [Cl.clear, Cl.vals]
  | 6, _, _ => simp [Cl.clear, Cl.vals]
  | 7, _, _ => simp [Cl.clear, Cl.vals]
  | 8, _, _ => simp [Cl.clear, Cl.vals]
theorem small_clear (c : Cl) (hs : c.small) (ks : List Nat) : (c.clear ks).small := by
  obtain ⟨s1, s2, s3, s4⟩ := hs
  refine ⟨?_, ?_, ?_, ?_⟩ <;> simp only [Cl.clear] <;> split <;> first | assumption | decide
theorem form_clear (c : Cl) (hf : c.form) (ks : List Nat) : (c.clear ks).form := by
  obtain ⟨ao, cc, hd⟩ := hf
  by_cases h : 8 ∈ ks
  · exact ⟨none, 0, by simp [Cl.clear, h]⟩
  · exact ⟨ao, cc, by simp [Cl.clear, h, hd]⟩
theorem bs_step (s : ByteArray) (q : Nat) (h : q < s.size) : ((bs s).take (q + 1)).map prgK = ((bs s).take q).map prgK ++ [prgK (s[q]'h)] := by
  rw [bs_take s q h, List.map_append]; rfl
theorem ascii_L (x : UInt8) (hx : isL x) : x.toNat < 128 := by
  rcases hx with rfl | rfl | rfl | rfl | rfl | rfl | rfl | rfl <;> decide

set_option maxHeartbeats 4000000 in
theorem spare_any (c : Cl) (hs : c.small) (hf : c.form) (s : ByteArray) (hL : ∀ x ∈ bs s, isL x) (w : World) : Calls Tryd.prog 40 #[c.val, .string s] w fun e w' => e = .returned (.bool (c.clear ((bs s).map prgK)).left) ∧ Below w.heap.size w w' := by
  have HL := Lib.hid hL
  clear hL
  have hB0 := Bx.new w c
  unfold Cl.val
  have hv : c.vals.size = 9 := rfl
  go_enter Tryd.func40, Tryd.ntmps40
  go_wp2_with fail
  go_loopw [] (fun wr => ∃ pos : Nat, pos ≤ s.size ∧ Bx wr w.heap.size (c.clear (((bs s).take pos).map prgK)) ∧ wr.heap[w.heap.size + 1]? = some (.stringIter s pos) ∧ Below w.heap.size w wr) (fun wr => s.size - wr.iterPos (w.heap.size + 1))
  case atStart =>
    refine ⟨0, Nat.zero_le _, ?_, ?_, ((Below.refl _ w).alloc (Nat.le_refl _) _).alloc (by simp) _⟩
    · rw [List.take_zero, List.map_nil, clear_nil]
      exact hB0.below ((Below.refl _ _).alloc (Nat.le_refl _) _)
    · have := World.iter_heap (w.alloc (.cells c.vals 25)) s 0
      simpa using this
  case round =>
    obtain ⟨pos, hpos, hX, hit, hbw⟩ := hrel
    have hsz : w.heap.size + 1 < wr.heap.size := (Array.getElem?_eq_some_iff.1 hit).1
    have HX := Lib.hid hX
    have HIT := Lib.hid hit
    have HBW := Lib.hid hbw
    clear hX hbw hB0
    by_cases hp : pos < s.size
    · have hx : isL (s[pos]'hp) := HL.out _ (by rw [← bs_at s pos hp]; exact List.getElem_mem _)
      have hnx : ∀ ty, (Instr.next (.pointer (some ⟨w.heap.size + 1, 0, none⟩)) true ty).run Tryd.prog wr = _ := fun ty => Lib.run_next_ascii_at wr (w.heap.size + 1) s pos ty hit hp (ascii_L _ hx)
      have HT := Lib.hid (bs_step s pos hp)
      generalize s[pos]'hp = x at hx hnx HT
      have hit2 := Lib.hid (Lib.iterAt_heap wr (w.heap.size + 1) s pos (pos + 1) hit)
      have hX2 : Bx (wr.iterAt (w.heap.size + 1) s (pos + 1)) w.heap.size (c.clear (((bs s).take pos).map prgK)) := ⟨(Lib.iterAt_other wr (w.heap.size + 1) w.heap.size s (pos + 1) (by omega)).trans HX.out.heap⟩
      have hb2 := Lib.below_iterAt HBW.out (k := w.heap.size + 1) (by omega) s (pos + 1)
      have hs2 : (wr.iterAt (w.heap.size + 1) s (pos + 1)).heap.size = wr.heap.size := Lib.iterAt_size _ _ _ _
      have HB2 := Lib.hid hb2
      have HX2 := Lib.hid hX2
      clear hb2 hX2 hit
      generalize wr.iterAt (w.heap.size + 1) s (pos + 1) = W1 at *
      have hN := callNumber_any w.heap.size x hx W1
      have hg := prgK_ge x
      have HC := Lib.hid (clear_step c (((bs s).take pos).map prgK) (prgK x) hg.1 hg.2)
      by_cases h4 : prgK x ≤ 4
      · have hpt : ptrK w.heap.size x = .pointer (some ⟨w.heap.size, prgK x, none⟩) := if_pos h4
        rw [hpt] at hN
        have hcv : (c.clear (((bs s).take pos).map prgK)).vals[prgK x]? = some ((c.clear (((bs s).take pos).map prgK)).vals[prgK x]'(by show prgK x < 9; omega)) := Array.getElem?_eq_getElem _
        have hce := HX2.out.cell (prgK x) _ hcv
        generalize (c.clear (((bs s).take pos).map prgK)).vals[prgK x]'_ = v0 at hce
        have hfr := HX2.out.free (prgK x)
        have HX3 := Lib.hid (HX2.out.set (prgK x) (.int .i64 0) (by have := HC.out; rw [if_pos h4] at this; exact this))
        clear hpt hcv
        go_wp2_with fail
        refine hN.mono ?_
        rintro e w1 ⟨rfl, hw1⟩
        subst w1
        clear hN
        go_wp2_with fail
        go_roundw
        case rel =>
          refine ⟨pos + 1, by omega, ?_, ?_, HB2.out.setCell (p := ⟨w.heap.size, prgK x, none⟩) (Nat.le_refl _) _⟩
          · rw [HT.out]; exact HX3.out
          · rw [Below.heap_setCell _ _ _ _ (by simp)]; exact hit2.out
        case measure =>
          simp only [World.iterPos, Below.heap_setCell _ ⟨w.heap.size, prgK x, none⟩ _ (w.heap.size + 1) (by simp), hit2.out, HIT.out]
          omega
      · have hpt : ptrK w.heap.size x = .pointer none := if_neg h4
        rw [hpt] at hN
        have hS := setText_any w.heap.size x (isL_text x hx h4) _ W1 HX2.out
        have HX3 := Lib.hid (HX2.out.set (prgK x) _ (by have := HC.out; rw [if_neg h4] at this; exact this))
        clear hpt
        go_wp2_with fail
        refine hN.mono ?_
        rintro e w1 ⟨rfl, hw1⟩
        subst w1
        clear hN
        go_wp2_with fail
        refine hS.mono ?_
        rintro e w1 ⟨rfl, hw1⟩
        subst w1
        clear hS
        go_wp2_with fail
        go_roundw
        case rel =>
          refine ⟨pos + 1, by omega, ?_, ?_, HB2.out.setCell (p := ⟨w.heap.size, prgK x, none⟩) (Nat.le_refl _) _⟩
          · rw [HT.out]; exact HX3.out
          · rw [Below.heap_setCell _ _ _ _ (by simp)]; exact hit2.out
        case measure =>
          simp only [World.iterPos, Below.heap_setCell _ ⟨w.heap.size, prgK x, none⟩ _ (w.heap.size + 1) (by simp), hit2.out, HIT.out]
          omega
    · have hnx : ∀ ty, (Instr.next (.pointer (some ⟨w.heap.size + 1, 0, none⟩)) true ty).run Tryd.prog wr = _ := fun ty => Lib.run_next_end_at wr (w.heap.size + 1) s pos ty hit hp
      obtain rfl : pos = s.size := by omega
      have hX3 := HX.out
      rw [List.take_of_length_le (by rw [size_bs]; exact Nat.le_refl _)] at hX3
      have hs' := small_clear c hs ((bs s).map prgK)
      have hf' := form_clear c hf ((bs s).map prgK)
      obtain ⟨d, hde⟩ : ∃ d, c.clear ((bs s).map prgK) = d := ⟨_, rfl⟩
      rw [hde] at hX3 hs' hf'
      have HE := Lib.hid hde
      clear hde
      have hY := bytesOf_any d hs' hf' wr
      unfold Cl.val at hY
      obtain ⟨c0, c1, c2, c3, c4, c5, c6, c7, c8⟩ := hX3.cells
      clear hX3 HX hit HIT
      have hdl : d.left = (d.h != 0 || (d.h2 != 0 || (d.off != 0 || (d.len != 0 || decide (0 < d.bytes))))) := rfl
      have HD := Lib.hid hdl
      clear hdl
      rcases Bool.eq_false_or_eq_true (d.h != 0) with b1 | b1
      · go_wp2_with fail
        go_ret
        exact ⟨by rw [HE.out, HD.out, b1]; rfl, HBW.out⟩
      rcases Bool.eq_false_or_eq_true (d.h2 != 0) with b2 | b2
      · go_wp2_with fail
        go_ret
        exact ⟨by rw [HE.out, HD.out, b1, b2]; rfl, HBW.out⟩
      rcases Bool.eq_false_or_eq_true (d.off != 0) with b3 | b3
      · go_wp2_with fail
        go_ret
        exact ⟨by rw [HE.out, HD.out, b1, b2, b3]; rfl, HBW.out⟩
      rcases Bool.eq_false_or_eq_true (d.len != 0) with b4 | b4
      · go_wp2_with fail
        go_ret
        exact ⟨by rw [HE.out, HD.out, b1, b2, b3, b4]; rfl, HBW.out⟩
      go_wp2_with fail
      refine hY.mono ?_
      rintro e w5 ⟨rfl, hb5⟩
      clear hY
      have HB5 := Lib.hid hb5
      clear hb5
      go_wp2_with fail
      go_ret
      exact ⟨by rw [HE.out, HD.out, b1, b2, b3, b4]; simp, HBW.out.trans (HB5.out.mono HBW.out.size)⟩
end Go.Proofs.YtjkmdacgiebbfaaDoor
