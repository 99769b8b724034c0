/- The document's callErr, PrintCall. -/
import Derived.Test.YtjkmdacgiebbfaaDoorW10
import Derived.Test.YtjkmdacgiebbfaaDoorW11
namespace Go.Proofs.YtjkmdacgiebbfaaDoor
open Go.RowKit Go.Sort
set_option maxRecDepth 100000

set_option maxHeartbeats 1000000 in
theorem callErr_out (c : Cl) (hop : c.op < 1 ∨ 10 < c.op) (w : World) : Calls Tryd.prog 36 #[c.val] w fun e w' => e = .returned (.int .i64 212) ∧ Below w.heap.size w w' := by
  obtain ⟨d0, _⟩ := (Bx.new w c).cells
  unfold Cl.val
  have hv : c.vals.size = 9 := rfl
  rcases hop with h | h
  all_goals
    go_enter Tryd.func36, Tryd.ntmps36
    go_wp2_with fail
    go_ret
    exact ⟨rfl, (Below.refl _ w).alloc (Nat.le_refl _) _⟩
theorem judged_err (c : Cl) (h : 1 ≤ c.op ∧ c.op ≤ 10) : c.judged c.op = c.err := by
  rw [err_eq, if_neg (by omega)]
  unfold Cl.judged
  rw [part_eq c c.op h]
  by_cases hl : (c.clear (formOf c.op)).left = true
  · rw [if_pos hl, if_pos hl]
  · rw [if_neg hl, if_neg hl, nums_eq c (formOf c.op) (by simpa using hl)]
theorem callErr_any (c : Cl) (hf : c.form) (w : World) (hG : Gl w) : Calls Tryd.prog 36 #[c.val] w fun e w' => e = .returned (.int .i64 c.err) ∧ Below w.heap.size w w' := by
  by_cases h : 1 ≤ c.op ∧ c.op ≤ 10
  · rw [← judged_err c h]
    rcases op_cases h with e | e | e | e | e | e | e | e | e | e
    · rw [e]; exact callErr_1 c e hf w hG
    · rw [e]; exact callErr_2 c e hf w hG
    · rw [e]; exact callErr_3 c e hf w hG
    · rw [e]; exact callErr_4 c e hf w hG
    · rw [e]; exact callErr_5 c e hf w hG
    · rw [e]; exact callErr_6 c e hf w hG
    · rw [e]; exact callErr_7 c e hf w hG
    · rw [e]; exact callErr_8 c e hf w hG
    · rw [e]; exact callErr_9 c e hf w hG
    · rw [e]; exact callErr_10 c e hf w hG
  · have he : c.err = 212 := if_pos (by omega)
    rw [he]
    exact callErr_out c (by omega) w


set_option maxHeartbeats 2000000 in
theorem rprintCall_any (c : Cl) (hs : c.small) (hi : c.ints) (w : World) (hD : c.Lies w) (hG : Gl w) : Calls Tryd.prog 24 #[c.val] w fun e w' => e = .returned (.tuple #[.string (tx c.said), .int .i64 c.code]) ∧ Below w.heap.size w w' := by
  have hf : c.form := by
    obtain ⟨ao, cc, h, _⟩ := BAt.form hD
    exact ⟨ao, cc, h⟩
  have hX := Bx.new w c
  have b1 : Below w.heap.size w (w.alloc (.cells c.vals 25)) := (Below.refl _ w).alloc (Nat.le_refl _) _
  obtain ⟨d0, d1, d2, d3, d4, d5, d6, d7, d8⟩ := hX.cells
  have HV := Lib.hid (show c.val = .agg #[.int .i64 c.op, .int .i64 c.h, .int .i64 c.h2, .int .i64 c.off, .int .i64 c.len, .string c.path, .string c.name, .string c.name2, c.dv] from rfl)
  have hJ := callErr_any c hf (w.alloc (.cells c.vals 25)) (hG.here b1)
  have HX := Lib.hid hX
  have HB1 := Lib.hid b1
  rw [HV.out] at hJ
  have HD := Lib.hid hD
  have HG := Lib.hid hG
  have hv : c.vals.size = 9 := rfl
  clear hD hG hX b1
  unfold Cl.val
  go_enter Tryd.func24, Tryd.ntmps24
  go_wp2_with fail
  refine hJ.mono ?_
  rintro e w2 ⟨rfl, b2⟩
  clear hJ d0 d1 d2 d3 d4 d5 d6 d7 d8
  have HX2 := Lib.hid (HX.out.below b2)
  have HB2 := Lib.hid (HB1.out.trans (b2.mono HB1.out.size))
  clear b2 HX HB1
  by_cases he : c.err = 0
  · rw [he]
    have HE := Lib.hid he
    have hop : 1 ≤ c.op ∧ c.op ≤ 10 := by
      refine Classical.byContradiction fun h => ?_
      have : c.err = 212 := if_pos (by omega)
      omega
    clear he
    have hT := rcallText_any c hop hs hi w2 (HD.out.below HB2.out) (HG.out.here HB2.out)
    rw [HV.out] at hT
    obtain ⟨d0, d1, d2, d3, d4, d5, d6, d7, d8⟩ := HX2.out.cells
    go_wp2_with fail
    refine hT.mono ?_
    rintro e w4 ⟨rfl, b4⟩
    clear hT d0 d1 d2 d3 d4 d5 d6 d7 d8
    have HB4 := Lib.hid (HB2.out.trans (b4.mono HB2.out.size))
    have hsz := size_tx c.text
    clear b4
    by_cases hl : 1048576 < c.text.length
    · have hc : c.code = 216 := by unfold Cl.code; rw [if_neg (by rw [HE.out]; simp), if_pos hl]
      have hs : c.said = [] := by unfold Cl.said; rw [if_pos (by rw [hc]; decide)]
      have HC := Lib.hid hc
      have HS := Lib.hid hs
      have hli : (1048576 : Int) < (c.text.length : Int) := by omega
      clear hc hs hl hsz
      go_wp2_with fail
      go_ret2
      exact ⟨by rw [HC.out, HS.out]; rfl, HB4.out⟩
    · have hc : c.code = 0 := by unfold Cl.code; rw [if_neg (by rw [HE.out]; simp), if_neg hl]
      have hs : c.said = c.text := by unfold Cl.said; rw [if_neg (by rw [hc]; decide)]
      have HC := Lib.hid hc
      have HS := Lib.hid hs
      have hli : (c.text.length : Int) ≤ 1048576 := by omega
      clear hc hs hl hsz
      go_wp2_with fail
      go_ret2
      exact ⟨by rw [HC.out, HS.out]; rfl, HB4.out⟩
  · have hc : c.code = c.err := by unfold Cl.code; rw [if_pos he]
    have hs : c.said = [] := by unfold Cl.said; rw [if_pos (by rw [hc]; exact he)]
    have hne : (c.err != 0) = true := by simpa using he
    have HC := Lib.hid hc
    have HS := Lib.hid hs
    clear hc hs he
    go_wp2_with fail
    go_ret2
    exact ⟨by rw [HC.out, HS.out]; rfl, HB2.out⟩

/-- A call as it is told. -/
def Cl.told (c : Cl) : By := if c.code ≠ 0 then [63] else c.text
set_option maxHeartbeats 1000000 in
theorem wcall_any (c : Cl) (hs : c.small) (hb : c.bytes ≤ 1048576) (hi : c.ints) (w : World) (hD : c.Lies w) (hG : Gl w) : Calls Tryd.prog 7 #[c.val] w fun e w' => e = .returned (.string (tx c.told)) ∧ Below w.heap.size w w' := by
  have hX := Bx.new w c
  have b1 : Below w.heap.size w (w.alloc (.cells c.vals 25)) := (Below.refl _ w).alloc (Nat.le_refl _) _
  obtain ⟨d0, d1, d2, d3, d4, d5, d6, d7, d8⟩ := hX.cells
  have HV := Lib.hid (show c.val = .agg #[.int .i64 c.op, .int .i64 c.h, .int .i64 c.h2, .int .i64 c.off, .int .i64 c.len, .string c.path, .string c.name, .string c.name2, c.dv] from rfl)
  have hP := printCall_any c hs hb hi (w.alloc (.cells c.vals 25)) (hD.below b1) (hG.here b1)
  rw [HV.out] at hP
  have HB1 := Lib.hid b1
  clear hD hG hX b1
  unfold Cl.val
  have hv : c.vals.size = 9 := rfl
  by_cases hc : c.code = 0
  · have ht : c.told = c.text := if_neg (by rw [hc]; decide)
    have hsd : c.said = c.text := if_neg (by rw [hc]; decide)
    rw [hc, hsd] at hP
    rw [ht]
    clear hc ht hsd
    go_enter Tryd.func7, Tryd.ntmps7
    go_wp2_with fail
    refine hP.mono ?_
    rintro e w2 ⟨rfl, b2⟩
    clear hP
    go_wp2_with fail
    go_ret
    exact ⟨rfl, HB1.out.trans (b2.mono HB1.out.size)⟩
  · have ht : c.told = [63] := if_pos hc
    have hne : (c.code != 0) = true := by simpa using hc
    rw [ht]
    clear hc ht
    go_enter Tryd.func7, Tryd.ntmps7
    go_wp2_with fail
    refine hP.mono ?_
    rintro e w2 ⟨rfl, b2⟩
    clear hP
    go_wp2_with fail
    go_ret
    exact ⟨rfl, HB1.out.trans (b2.mono HB1.out.size)⟩
set_option maxHeartbeats 1000000 in
theorem rcall_any (c : Cl) (hs : c.small) (hi : c.ints) (w : World) (hD : c.Lies w) (hG : Gl w) : Calls Tryd.prog 12 #[c.val] w fun e w' => e = .returned (.string (tx c.told)) ∧ Below w.heap.size w w' := by
  have hX := Bx.new w c
  have b1 : Below w.heap.size w (w.alloc (.cells c.vals 25)) := (Below.refl _ w).alloc (Nat.le_refl _) _
  obtain ⟨d0, d1, d2, d3, d4, d5, d6, d7, d8⟩ := hX.cells
  have HV := Lib.hid (show c.val = .agg #[.int .i64 c.op, .int .i64 c.h, .int .i64 c.h2, .int .i64 c.off, .int .i64 c.len, .string c.path, .string c.name, .string c.name2, c.dv] from rfl)
  have hP := rprintCall_any c hs hi (w.alloc (.cells c.vals 25)) (hD.below b1) (hG.here b1)
  rw [HV.out] at hP
  have HB1 := Lib.hid b1
  clear hD hG hX b1
  unfold Cl.val
  have hv : c.vals.size = 9 := rfl
  by_cases hc : c.code = 0
  · have ht : c.told = c.text := if_neg (by rw [hc]; decide)
    have hsd : c.said = c.text := if_neg (by rw [hc]; decide)
    rw [hc, hsd] at hP
    rw [ht]
    clear hc ht hsd
    go_enter Tryd.func12, Tryd.ntmps12
    go_wp2_with fail
    refine hP.mono ?_
    rintro e w2 ⟨rfl, b2⟩
    clear hP
    go_wp2_with fail
    go_ret
    exact ⟨rfl, HB1.out.trans (b2.mono HB1.out.size)⟩
  · have ht : c.told = [63] := if_pos hc
    have hne : (c.code != 0) = true := by simpa using hc
    rw [ht]
    clear hc ht
    go_enter Tryd.func12, Tryd.ntmps12
    go_wp2_with fail
    refine hP.mono ?_
    rintro e w2 ⟨rfl, b2⟩
    clear hP
    go_wp2_with fail
    go_ret
    exact ⟨rfl, HB1.out.trans (b2.mono HB1.out.size)⟩
end Go.Proofs.YtjkmdacgiebbfaaDoor
