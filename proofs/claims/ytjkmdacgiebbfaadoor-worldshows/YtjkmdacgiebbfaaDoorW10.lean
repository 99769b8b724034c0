/- The document's callErr, operation by operation. (Written by mkW10.py.) -/
import Derived.Test.YtjkmdacgiebbfaaDoorW9
namespace Go.Proofs.YtjkmdacgiebbfaaDoor
open Go.RowKit Go.Sort
set_option maxRecDepth 100000

def Cl.judged (c : Cl) (k : Int) : Int := if c.part k = true then 218 else if c.nums = true then 213 else 0
theorem tl_empty (s : ByteArray) : (s.toList = []) = (s = ByteArray.empty) := by
  rw [eq_iff_iff, show s.toList = bs s from ByteArray.toList_eq s, ← List.length_eq_zero_iff, size_bs, ByteArray.size_eq_zero_iff]
theorem judged_spare {c : Cl} {k : Int} (h : c.part k = true) : c.judged k = 218 := if_pos h
theorem judged_num {c : Cl} {k : Int} (h : c.part k = false) (h2 : c.nums = true) : c.judged k = 213 := by unfold Cl.judged; rw [h, h2]; rfl
theorem judged_ok {c : Cl} {k : Int} (h : c.part k = false) (h2 : c.nums = false) : c.judged k = 0 := by unfold Cl.judged; rw [h, h2]; rfl
set_option maxHeartbeats 8000000 in
theorem callErr_1 (c : Cl) (hop : c.op = 1) (hf : c.form) (w : World) (hG : Gl w) : Calls Tryd.prog 36 #[c.val] w fun e w' => e = .returned (.int .i64 (Cl.judged c 1)) ∧ Below w.heap.size w w' := by
  obtain ⟨op, h, h2, off, len, path, name, name2, dv, dl⟩ := c
  simp only at hop
  subst hop
  obtain ⟨ao, cc, hd⟩ := hf
  simp only at hd
  subst hd
  have hfc : (w.alloc (.cells #[.int .i64 1, .int .i64 h, .int .i64 h2, .int .i64 off, .int .i64 len, .string path, .string name, .string name2, .slice ao dl.length cc] 25)).cell? ⟨0, 1, none⟩ = some (.string ⟨#[112]⟩) := (((Below.refl _ w).alloc (Nat.le_refl _) _).cell (Nat.lt_of_lt_of_le (by decide) hG.size)).trans (World.var?_cell gn_forms hG.forms 1)
  have hgs := hG.size
  obtain ⟨X, hX⟩ : ∃ X, Cl.judged ⟨1, h, h2, off, len, path, name, name2, .slice ao dl.length cc, dl⟩ 1 = X := ⟨_, rfl⟩
  rw [hX]
  have HX := Lib.hid hX
  clear hX
  have a_p := fun w => asked_any ⟨#[112]⟩ 112 w (by decide)
  rw [show (bs ⟨#[112]⟩).contains 112 = true by decide] at a_p
  have a_n := fun w => asked_any ⟨#[112]⟩ 110 w (by decide)
  rw [show (bs ⟨#[112]⟩).contains 110 = false by decide] at a_n
  have a_m := fun w => asked_any ⟨#[112]⟩ 109 w (by decide)
  rw [show (bs ⟨#[112]⟩).contains 109 = false by decide] at a_m
  have a_d := fun w => asked_any ⟨#[112]⟩ 100 w (by decide)
  rw [show (bs ⟨#[112]⟩).contains 100 = false by decide] at a_d
  have a_h := fun w => asked_any ⟨#[112]⟩ 104 w (by decide)
  rw [show (bs ⟨#[112]⟩).contains 104 = false by decide] at a_h
  have a_g := fun w => asked_any ⟨#[112]⟩ 103 w (by decide)
  rw [show (bs ⟨#[112]⟩).contains 103 = false by decide] at a_g
  have a_o := fun w => asked_any ⟨#[112]⟩ 111 w (by decide)
  rw [show (bs ⟨#[112]⟩).contains 111 = false by decide] at a_o
  have a_l := fun w => asked_any ⟨#[112]⟩ 108 w (by decide)
  rw [show (bs ⟨#[112]⟩).contains 108 = false by decide] at a_l
  have n_h := fun w => rnumber_any h w
  have n_g := fun w => rnumber_any h2 w
  have n_o := fun w => rnumber_any off w
  have n_l := fun w => rnumber_any len w
  have HB := Lib.hid ((Below.refl _ w).alloc (Nat.le_refl _) (.cells #[.int .i64 1, .int .i64 h, .int .i64 h2, .int .i64 off, .int .i64 len, .string path, .string name, .string name2, .slice ao dl.length cc] 25))
  unfold Cl.val Cl.vals
  simp only
  go_enter Tryd.func36, Tryd.ntmps36
  go_wp2_with fail
  refine (a_p _).mono ?_
  rintro e w1 ⟨rfl, hw1⟩
  subst w1
  clear a_p
  go_wp2_with fail
  refine (a_n _).mono ?_
  rintro e w1 ⟨rfl, hw1⟩
  subst w1
  clear a_n
  go_wp2_with fail
  refine (a_m _).mono ?_
  rintro e w1 ⟨rfl, hw1⟩
  subst w1
  clear a_m
  go_wp2_with fail
  refine (a_d _).mono ?_
  rintro e w1 ⟨rfl, hw1⟩
  subst w1
  clear a_d
  go_wp2_with fail
  refine (a_h _).mono ?_
  rintro e w1 ⟨rfl, hw1⟩
  subst w1
  clear a_h
  go_wp2_with fail
  refine (a_g _).mono ?_
  rintro e w1 ⟨rfl, hw1⟩
  subst w1
  clear a_g
  go_wp2_with fail
  refine (a_o _).mono ?_
  rintro e w1 ⟨rfl, hw1⟩
  subst w1
  clear a_o
  go_wp2_with fail
  refine (a_l _).mono ?_
  rintro e w1 ⟨rfl, hw1⟩
  subst w1
  clear a_l
  go_wp2_with fail
  all_goals first
    | (go_ret; exact ⟨by rw [← HX.out, judged_spare (by (try simp only [tl_empty] at *); simp [Cl.part, docOf, *])]; rfl, (Below.refl _ w).alloc (Nat.le_refl _) _⟩)
    | skip
  refine (rnumber_any _ _).mono ?_
  rintro e w1 ⟨rfl, hw1⟩
  subst w1
  go_wp2_with fail
  refine (rnumber_any _ _).mono ?_
  rintro e w1 ⟨rfl, hw1⟩
  subst w1
  go_wp2_with fail
  refine (rnumber_any _ _).mono ?_
  rintro e w1 ⟨rfl, hw1⟩
  subst w1
  go_wp2_with fail
  refine (rnumber_any _ _).mono ?_
  rintro e w1 ⟨rfl, hw1⟩
  subst w1
  go_wp2_with fail
  all_goals first
    | (go_ret; exact ⟨by rw [← HX.out, judged_num (by (try simp only [tl_empty] at *); simp [Cl.part, docOf, *]) (by simp [Cl.nums, *])]; rfl, (Below.refl _ w).alloc (Nat.le_refl _) _⟩)
    | (go_ret; exact ⟨by rw [← HX.out, judged_ok (by (try simp only [tl_empty] at *); simp [Cl.part, docOf, *]) (by simp [Cl.nums, *])]; rfl, (Below.refl _ w).alloc (Nat.le_refl _) _⟩)
set_option maxHeartbeats 8000000 in
theorem callErr_2 (c : Cl) (hop : c.op = 2) (hf : c.form) (w : World) (hG : Gl w) : Calls Tryd.prog 36 #[c.val] w fun e w' => e = .returned (.int .i64 (Cl.judged c 2)) ∧ Below w.heap.size w w' := by
  obtain ⟨op, h, h2, off, len, path, name, name2, dv, dl⟩ := c
  simp only at hop
  subst hop
  obtain ⟨ao, cc, hd⟩ := hf
  simp only at hd
  subst hd
  have hfc : (w.alloc (.cells #[.int .i64 2, .int .i64 h, .int .i64 h2, .int .i64 off, .int .i64 len, .string path, .string name, .string name2, .slice ao dl.length cc] 25)).cell? ⟨0, 2, none⟩ = some (.string ⟨#[104]⟩) := (((Below.refl _ w).alloc (Nat.le_refl _) _).cell (Nat.lt_of_lt_of_le (by decide) hG.size)).trans (World.var?_cell gn_forms hG.forms 2)
  have hgs := hG.size
  obtain ⟨X, hX⟩ : ∃ X, Cl.judged ⟨2, h, h2, off, len, path, name, name2, .slice ao dl.length cc, dl⟩ 2 = X := ⟨_, rfl⟩
  rw [hX]
  have HX := Lib.hid hX
  clear hX
  have a_p := fun w => asked_any ⟨#[104]⟩ 112 w (by decide)
  rw [show (bs ⟨#[104]⟩).contains 112 = false by decide] at a_p
  have a_n := fun w => asked_any ⟨#[104]⟩ 110 w (by decide)
  rw [show (bs ⟨#[104]⟩).contains 110 = false by decide] at a_n
  have a_m := fun w => asked_any ⟨#[104]⟩ 109 w (by decide)
  rw [show (bs ⟨#[104]⟩).contains 109 = false by decide] at a_m
  have a_d := fun w => asked_any ⟨#[104]⟩ 100 w (by decide)
  rw [show (bs ⟨#[104]⟩).contains 100 = false by decide] at a_d
  have a_h := fun w => asked_any ⟨#[104]⟩ 104 w (by decide)
  rw [show (bs ⟨#[104]⟩).contains 104 = true by decide] at a_h
  have a_g := fun w => asked_any ⟨#[104]⟩ 103 w (by decide)
  rw [show (bs ⟨#[104]⟩).contains 103 = false by decide] at a_g
  have a_o := fun w => asked_any ⟨#[104]⟩ 111 w (by decide)
  rw [show (bs ⟨#[104]⟩).contains 111 = false by decide] at a_o
  have a_l := fun w => asked_any ⟨#[104]⟩ 108 w (by decide)
  rw [show (bs ⟨#[104]⟩).contains 108 = false by decide] at a_l
  have n_h := fun w => rnumber_any h w
  have n_g := fun w => rnumber_any h2 w
  have n_o := fun w => rnumber_any off w
  have n_l := fun w => rnumber_any len w
  have HB := Lib.hid ((Below.refl _ w).alloc (Nat.le_refl _) (.cells #[.int .i64 2, .int .i64 h, .int .i64 h2, .int .i64 off, .int .i64 len, .string path, .string name, .string name2, .slice ao dl.length cc] 25))
  unfold Cl.val Cl.vals
  simp only
  go_enter Tryd.func36, Tryd.ntmps36
  go_wp2_with fail
  refine (a_p _).mono ?_
  rintro e w1 ⟨rfl, hw1⟩
  subst w1
  clear a_p
  go_wp2_with fail
  refine (a_n _).mono ?_
  rintro e w1 ⟨rfl, hw1⟩
  subst w1
  clear a_n
  go_wp2_with fail
  refine (a_m _).mono ?_
  rintro e w1 ⟨rfl, hw1⟩
  subst w1
  clear a_m
  go_wp2_with fail
  refine (a_d _).mono ?_
  rintro e w1 ⟨rfl, hw1⟩
  subst w1
  clear a_d
  go_wp2_with fail
  refine (a_h _).mono ?_
  rintro e w1 ⟨rfl, hw1⟩
  subst w1
  clear a_h
  go_wp2_with fail
  refine (a_g _).mono ?_
  rintro e w1 ⟨rfl, hw1⟩
  subst w1
  clear a_g
  go_wp2_with fail
  refine (a_o _).mono ?_
  rintro e w1 ⟨rfl, hw1⟩
  subst w1
  clear a_o
  go_wp2_with fail
  refine (a_l _).mono ?_
  rintro e w1 ⟨rfl, hw1⟩
  subst w1
  clear a_l
  go_wp2_with fail
  all_goals first
    | (go_ret; exact ⟨by rw [← HX.out, judged_spare (by (try simp only [tl_empty] at *); simp [Cl.part, docOf, *])]; rfl, (Below.refl _ w).alloc (Nat.le_refl _) _⟩)
    | skip
  refine (rnumber_any _ _).mono ?_
  rintro e w1 ⟨rfl, hw1⟩
  subst w1
  go_wp2_with fail
  refine (rnumber_any _ _).mono ?_
  rintro e w1 ⟨rfl, hw1⟩
  subst w1
  go_wp2_with fail
  refine (rnumber_any _ _).mono ?_
  rintro e w1 ⟨rfl, hw1⟩
  subst w1
  go_wp2_with fail
  refine (rnumber_any _ _).mono ?_
  rintro e w1 ⟨rfl, hw1⟩
  subst w1
  go_wp2_with fail
  all_goals first
    | (go_ret; exact ⟨by rw [← HX.out, judged_num (by (try simp only [tl_empty] at *); simp [Cl.part, docOf, *]) (by simp [Cl.nums, *])]; rfl, (Below.refl _ w).alloc (Nat.le_refl _) _⟩)
    | (go_ret; exact ⟨by rw [← HX.out, judged_ok (by (try simp only [tl_empty] at *); simp [Cl.part, docOf, *]) (by simp [Cl.nums, *])]; rfl, (Below.refl _ w).alloc (Nat.le_refl _) _⟩)
set_option maxHeartbeats 8000000 in
theorem callErr_3 (c : Cl) (hop : c.op = 3) (hf : c.form) (w : World) (hG : Gl w) : Calls Tryd.prog 36 #[c.val] w fun e w' => e = .returned (.int .i64 (Cl.judged c 3)) ∧ Below w.heap.size w w' := by
  obtain ⟨op, h, h2, off, len, path, name, name2, dv, dl⟩ := c
  simp only at hop
  subst hop
  obtain ⟨ao, cc, hd⟩ := hf
  simp only at hd
  subst hd
  have hfc : (w.alloc (.cells #[.int .i64 3, .int .i64 h, .int .i64 h2, .int .i64 off, .int .i64 len, .string path, .string name, .string name2, .slice ao dl.length cc] 25)).cell? ⟨0, 3, none⟩ = some (.string ⟨#[104, 111, 108]⟩) := (((Below.refl _ w).alloc (Nat.le_refl _) _).cell (Nat.lt_of_lt_of_le (by decide) hG.size)).trans (World.var?_cell gn_forms hG.forms 3)
  have hgs := hG.size
  obtain ⟨X, hX⟩ : ∃ X, Cl.judged ⟨3, h, h2, off, len, path, name, name2, .slice ao dl.length cc, dl⟩ 3 = X := ⟨_, rfl⟩
  rw [hX]
  have HX := Lib.hid hX
  clear hX
  have a_p := fun w => asked_any ⟨#[104, 111, 108]⟩ 112 w (by decide)
  rw [show (bs ⟨#[104, 111, 108]⟩).contains 112 = false by decide] at a_p
  have a_n := fun w => asked_any ⟨#[104, 111, 108]⟩ 110 w (by decide)
  rw [show (bs ⟨#[104, 111, 108]⟩).contains 110 = false by decide] at a_n
  have a_m := fun w => asked_any ⟨#[104, 111, 108]⟩ 109 w (by decide)
  rw [show (bs ⟨#[104, 111, 108]⟩).contains 109 = false by decide] at a_m
  have a_d := fun w => asked_any ⟨#[104, 111, 108]⟩ 100 w (by decide)
  rw [show (bs ⟨#[104, 111, 108]⟩).contains 100 = false by decide] at a_d
  have a_h := fun w => asked_any ⟨#[104, 111, 108]⟩ 104 w (by decide)
  rw [show (bs ⟨#[104, 111, 108]⟩).contains 104 = true by decide] at a_h
  have a_g := fun w => asked_any ⟨#[104, 111, 108]⟩ 103 w (by decide)
  rw [show (bs ⟨#[104, 111, 108]⟩).contains 103 = false by decide] at a_g
  have a_o := fun w => asked_any ⟨#[104, 111, 108]⟩ 111 w (by decide)
  rw [show (bs ⟨#[104, 111, 108]⟩).contains 111 = true by decide] at a_o
  have a_l := fun w => asked_any ⟨#[104, 111, 108]⟩ 108 w (by decide)
  rw [show (bs ⟨#[104, 111, 108]⟩).contains 108 = true by decide] at a_l
  have n_h := fun w => rnumber_any h w
  have n_g := fun w => rnumber_any h2 w
  have n_o := fun w => rnumber_any off w
  have n_l := fun w => rnumber_any len w
  have HB := Lib.hid ((Below.refl _ w).alloc (Nat.le_refl _) (.cells #[.int .i64 3, .int .i64 h, .int .i64 h2, .int .i64 off, .int .i64 len, .string path, .string name, .string name2, .slice ao dl.length cc] 25))
  unfold Cl.val Cl.vals
  simp only
  go_enter Tryd.func36, Tryd.ntmps36
  go_wp2_with fail
  refine (a_p _).mono ?_
  rintro e w1 ⟨rfl, hw1⟩
  subst w1
  clear a_p
  go_wp2_with fail
  refine (a_n _).mono ?_
  rintro e w1 ⟨rfl, hw1⟩
  subst w1
  clear a_n
  go_wp2_with fail
  refine (a_m _).mono ?_
  rintro e w1 ⟨rfl, hw1⟩
  subst w1
  clear a_m
  go_wp2_with fail
  refine (a_d _).mono ?_
  rintro e w1 ⟨rfl, hw1⟩
  subst w1
  clear a_d
  go_wp2_with fail
  refine (a_h _).mono ?_
  rintro e w1 ⟨rfl, hw1⟩
  subst w1
  clear a_h
  go_wp2_with fail
  refine (a_g _).mono ?_
  rintro e w1 ⟨rfl, hw1⟩
  subst w1
  clear a_g
  go_wp2_with fail
  refine (a_o _).mono ?_
  rintro e w1 ⟨rfl, hw1⟩
  subst w1
  clear a_o
  go_wp2_with fail
  refine (a_l _).mono ?_
  rintro e w1 ⟨rfl, hw1⟩
  subst w1
  clear a_l
  go_wp2_with fail
  all_goals first
    | (go_ret; exact ⟨by rw [← HX.out, judged_spare (by (try simp only [tl_empty] at *); simp [Cl.part, docOf, *])]; rfl, (Below.refl _ w).alloc (Nat.le_refl _) _⟩)
    | skip
  refine (rnumber_any _ _).mono ?_
  rintro e w1 ⟨rfl, hw1⟩
  subst w1
  go_wp2_with fail
  refine (rnumber_any _ _).mono ?_
  rintro e w1 ⟨rfl, hw1⟩
  subst w1
  go_wp2_with fail
  refine (rnumber_any _ _).mono ?_
  rintro e w1 ⟨rfl, hw1⟩
  subst w1
  go_wp2_with fail
  refine (rnumber_any _ _).mono ?_
  rintro e w1 ⟨rfl, hw1⟩
  subst w1
  go_wp2_with fail
  all_goals first
    | (go_ret; exact ⟨by rw [← HX.out, judged_num (by (try simp only [tl_empty] at *); simp [Cl.part, docOf, *]) (by simp [Cl.nums, *])]; rfl, (Below.refl _ w).alloc (Nat.le_refl _) _⟩)
    | (go_ret; exact ⟨by rw [← HX.out, judged_ok (by (try simp only [tl_empty] at *); simp [Cl.part, docOf, *]) (by simp [Cl.nums, *])]; rfl, (Below.refl _ w).alloc (Nat.le_refl _) _⟩)
set_option maxHeartbeats 8000000 in
theorem callErr_4 (c : Cl) (hop : c.op = 4) (hf : c.form) (w : World) (hG : Gl w) : Calls Tryd.prog 36 #[c.val] w fun e w' => e = .returned (.int .i64 (Cl.judged c 4)) ∧ Below w.heap.size w w' := by
  obtain ⟨op, h, h2, off, len, path, name, name2, dv, dl⟩ := c
  simp only at hop
  subst hop
  obtain ⟨ao, cc, hd⟩ := hf
  simp only at hd
  subst hd
  have hfc : (w.alloc (.cells #[.int .i64 4, .int .i64 h, .int .i64 h2, .int .i64 off, .int .i64 len, .string path, .string name, .string name2, .slice ao dl.length cc] 25)).cell? ⟨0, 4, none⟩ = some (.string ⟨#[104, 111, 100]⟩) := (((Below.refl _ w).alloc (Nat.le_refl _) _).cell (Nat.lt_of_lt_of_le (by decide) hG.size)).trans (World.var?_cell gn_forms hG.forms 4)
  have hgs := hG.size
  obtain ⟨X, hX⟩ : ∃ X, Cl.judged ⟨4, h, h2, off, len, path, name, name2, .slice ao dl.length cc, dl⟩ 4 = X := ⟨_, rfl⟩
  rw [hX]
  have HX := Lib.hid hX
  clear hX
  have a_p := fun w => asked_any ⟨#[104, 111, 100]⟩ 112 w (by decide)
  rw [show (bs ⟨#[104, 111, 100]⟩).contains 112 = false by decide] at a_p
  have a_n := fun w => asked_any ⟨#[104, 111, 100]⟩ 110 w (by decide)
  rw [show (bs ⟨#[104, 111, 100]⟩).contains 110 = false by decide] at a_n
  have a_m := fun w => asked_any ⟨#[104, 111, 100]⟩ 109 w (by decide)
  rw [show (bs ⟨#[104, 111, 100]⟩).contains 109 = false by decide] at a_m
  have a_d := fun w => asked_any ⟨#[104, 111, 100]⟩ 100 w (by decide)
  rw [show (bs ⟨#[104, 111, 100]⟩).contains 100 = true by decide] at a_d
  have a_h := fun w => asked_any ⟨#[104, 111, 100]⟩ 104 w (by decide)
  rw [show (bs ⟨#[104, 111, 100]⟩).contains 104 = true by decide] at a_h
  have a_g := fun w => asked_any ⟨#[104, 111, 100]⟩ 103 w (by decide)
  rw [show (bs ⟨#[104, 111, 100]⟩).contains 103 = false by decide] at a_g
  have a_o := fun w => asked_any ⟨#[104, 111, 100]⟩ 111 w (by decide)
  rw [show (bs ⟨#[104, 111, 100]⟩).contains 111 = true by decide] at a_o
  have a_l := fun w => asked_any ⟨#[104, 111, 100]⟩ 108 w (by decide)
  rw [show (bs ⟨#[104, 111, 100]⟩).contains 108 = false by decide] at a_l
  have n_h := fun w => rnumber_any h w
  have n_g := fun w => rnumber_any h2 w
  have n_o := fun w => rnumber_any off w
  have n_l := fun w => rnumber_any len w
  have HB := Lib.hid ((Below.refl _ w).alloc (Nat.le_refl _) (.cells #[.int .i64 4, .int .i64 h, .int .i64 h2, .int .i64 off, .int .i64 len, .string path, .string name, .string name2, .slice ao dl.length cc] 25))
  unfold Cl.val Cl.vals
  simp only
  go_enter Tryd.func36, Tryd.ntmps36
  go_wp2_with fail
  refine (a_p _).mono ?_
  rintro e w1 ⟨rfl, hw1⟩
  subst w1
  clear a_p
  go_wp2_with fail
  refine (a_n _).mono ?_
  rintro e w1 ⟨rfl, hw1⟩
  subst w1
  clear a_n
  go_wp2_with fail
  refine (a_m _).mono ?_
  rintro e w1 ⟨rfl, hw1⟩
  subst w1
  clear a_m
  go_wp2_with fail
  refine (a_d _).mono ?_
  rintro e w1 ⟨rfl, hw1⟩
  subst w1
  clear a_d
  go_wp2_with fail
  refine (a_h _).mono ?_
  rintro e w1 ⟨rfl, hw1⟩
  subst w1
  clear a_h
  go_wp2_with fail
  refine (a_g _).mono ?_
  rintro e w1 ⟨rfl, hw1⟩
  subst w1
  clear a_g
  go_wp2_with fail
  refine (a_o _).mono ?_
  rintro e w1 ⟨rfl, hw1⟩
  subst w1
  clear a_o
  go_wp2_with fail
  refine (a_l _).mono ?_
  rintro e w1 ⟨rfl, hw1⟩
  subst w1
  clear a_l
  go_wp2_with fail
  all_goals first
    | (go_ret; exact ⟨by rw [← HX.out, judged_spare (by (try simp only [tl_empty] at *); simp [Cl.part, docOf, *])]; rfl, (Below.refl _ w).alloc (Nat.le_refl _) _⟩)
    | skip
  refine (rnumber_any _ _).mono ?_
  rintro e w1 ⟨rfl, hw1⟩
  subst w1
  go_wp2_with fail
  refine (rnumber_any _ _).mono ?_
  rintro e w1 ⟨rfl, hw1⟩
  subst w1
  go_wp2_with fail
  refine (rnumber_any _ _).mono ?_
  rintro e w1 ⟨rfl, hw1⟩
  subst w1
  go_wp2_with fail
  refine (rnumber_any _ _).mono ?_
  rintro e w1 ⟨rfl, hw1⟩
  subst w1
  go_wp2_with fail
  all_goals first
    | (go_ret; exact ⟨by rw [← HX.out, judged_num (by (try simp only [tl_empty] at *); simp [Cl.part, docOf, *]) (by simp [Cl.nums, *])]; rfl, (Below.refl _ w).alloc (Nat.le_refl _) _⟩)
    | (go_ret; exact ⟨by rw [← HX.out, judged_ok (by (try simp only [tl_empty] at *); simp [Cl.part, docOf, *]) (by simp [Cl.nums, *])]; rfl, (Below.refl _ w).alloc (Nat.le_refl _) _⟩)
set_option maxHeartbeats 8000000 in
theorem callErr_5 (c : Cl) (hop : c.op = 5) (hf : c.form) (w : World) (hG : Gl w) : Calls Tryd.prog 36 #[c.val] w fun e w' => e = .returned (.int .i64 (Cl.judged c 5)) ∧ Below w.heap.size w w' := by
  obtain ⟨op, h, h2, off, len, path, name, name2, dv, dl⟩ := c
  simp only at hop
  subst hop
  obtain ⟨ao, cc, hd⟩ := hf
  simp only at hd
  subst hd
  have hfc : (w.alloc (.cells #[.int .i64 5, .int .i64 h, .int .i64 h2, .int .i64 off, .int .i64 len, .string path, .string name, .string name2, .slice ao dl.length cc] 25)).cell? ⟨0, 5, none⟩ = some (.string ⟨#[104, 110]⟩) := (((Below.refl _ w).alloc (Nat.le_refl _) _).cell (Nat.lt_of_lt_of_le (by decide) hG.size)).trans (World.var?_cell gn_forms hG.forms 5)
  have hgs := hG.size
  obtain ⟨X, hX⟩ : ∃ X, Cl.judged ⟨5, h, h2, off, len, path, name, name2, .slice ao dl.length cc, dl⟩ 5 = X := ⟨_, rfl⟩
  rw [hX]
  have HX := Lib.hid hX
  clear hX
  have a_p := fun w => asked_any ⟨#[104, 110]⟩ 112 w (by decide)
  rw [show (bs ⟨#[104, 110]⟩).contains 112 = false by decide] at a_p
  have a_n := fun w => asked_any ⟨#[104, 110]⟩ 110 w (by decide)
  rw [show (bs ⟨#[104, 110]⟩).contains 110 = true by decide] at a_n
  have a_m := fun w => asked_any ⟨#[104, 110]⟩ 109 w (by decide)
  rw [show (bs ⟨#[104, 110]⟩).contains 109 = false by decide] at a_m
  have a_d := fun w => asked_any ⟨#[104, 110]⟩ 100 w (by decide)
  rw [show (bs ⟨#[104, 110]⟩).contains 100 = false by decide] at a_d
  have a_h := fun w => asked_any ⟨#[104, 110]⟩ 104 w (by decide)
  rw [show (bs ⟨#[104, 110]⟩).contains 104 = true by decide] at a_h
  have a_g := fun w => asked_any ⟨#[104, 110]⟩ 103 w (by decide)
  rw [show (bs ⟨#[104, 110]⟩).contains 103 = false by decide] at a_g
  have a_o := fun w => asked_any ⟨#[104, 110]⟩ 111 w (by decide)
  rw [show (bs ⟨#[104, 110]⟩).contains 111 = false by decide] at a_o
  have a_l := fun w => asked_any ⟨#[104, 110]⟩ 108 w (by decide)
  rw [show (bs ⟨#[104, 110]⟩).contains 108 = false by decide] at a_l
  have n_h := fun w => rnumber_any h w
  have n_g := fun w => rnumber_any h2 w
  have n_o := fun w => rnumber_any off w
  have n_l := fun w => rnumber_any len w
  have HB := Lib.hid ((Below.refl _ w).alloc (Nat.le_refl _) (.cells #[.int .i64 5, .int .i64 h, .int .i64 h2, .int .i64 off, .int .i64 len, .string path, .string name, .string name2, .slice ao dl.length cc] 25))
  unfold Cl.val Cl.vals
  simp only
  go_enter Tryd.func36, Tryd.ntmps36
  go_wp2_with fail
  refine (a_p _).mono ?_
  rintro e w1 ⟨rfl, hw1⟩
  subst w1
  clear a_p
  go_wp2_with fail
  refine (a_n _).mono ?_
  rintro e w1 ⟨rfl, hw1⟩
  subst w1
  clear a_n
  go_wp2_with fail
  refine (a_m _).mono ?_
  rintro e w1 ⟨rfl, hw1⟩
  subst w1
  clear a_m
  go_wp2_with fail
  refine (a_d _).mono ?_
  rintro e w1 ⟨rfl, hw1⟩
  subst w1
  clear a_d
  go_wp2_with fail
  refine (a_h _).mono ?_
  rintro e w1 ⟨rfl, hw1⟩
  subst w1
  clear a_h
  go_wp2_with fail
  refine (a_g _).mono ?_
  rintro e w1 ⟨rfl, hw1⟩
  subst w1
  clear a_g
  go_wp2_with fail
  refine (a_o _).mono ?_
  rintro e w1 ⟨rfl, hw1⟩
  subst w1
  clear a_o
  go_wp2_with fail
  refine (a_l _).mono ?_
  rintro e w1 ⟨rfl, hw1⟩
  subst w1
  clear a_l
  go_wp2_with fail
  all_goals first
    | (go_ret; exact ⟨by rw [← HX.out, judged_spare (by (try simp only [tl_empty] at *); simp [Cl.part, docOf, *])]; rfl, (Below.refl _ w).alloc (Nat.le_refl _) _⟩)
    | skip
  refine (rnumber_any _ _).mono ?_
  rintro e w1 ⟨rfl, hw1⟩
  subst w1
  go_wp2_with fail
  refine (rnumber_any _ _).mono ?_
  rintro e w1 ⟨rfl, hw1⟩
  subst w1
  go_wp2_with fail
  refine (rnumber_any _ _).mono ?_
  rintro e w1 ⟨rfl, hw1⟩
  subst w1
  go_wp2_with fail
  refine (rnumber_any _ _).mono ?_
  rintro e w1 ⟨rfl, hw1⟩
  subst w1
  go_wp2_with fail
  all_goals first
    | (go_ret; exact ⟨by rw [← HX.out, judged_num (by (try simp only [tl_empty] at *); simp [Cl.part, docOf, *]) (by simp [Cl.nums, *])]; rfl, (Below.refl _ w).alloc (Nat.le_refl _) _⟩)
    | (go_ret; exact ⟨by rw [← HX.out, judged_ok (by (try simp only [tl_empty] at *); simp [Cl.part, docOf, *]) (by simp [Cl.nums, *])]; rfl, (Below.refl _ w).alloc (Nat.le_refl _) _⟩)
set_option maxHeartbeats 8000000 in
theorem callErr_6 (c : Cl) (hop : c.op = 6) (hf : c.form) (w : World) (hG : Gl w) : Calls Tryd.prog 36 #[c.val] w fun e w' => e = .returned (.int .i64 (Cl.judged c 6)) ∧ Below w.heap.size w w' := by
  obtain ⟨op, h, h2, off, len, path, name, name2, dv, dl⟩ := c
  simp only at hop
  subst hop
  obtain ⟨ao, cc, hd⟩ := hf
  simp only at hd
  subst hd
  have hfc : (w.alloc (.cells #[.int .i64 6, .int .i64 h, .int .i64 h2, .int .i64 off, .int .i64 len, .string path, .string name, .string name2, .slice ao dl.length cc] 25)).cell? ⟨0, 6, none⟩ = some (.string ⟨#[104, 110]⟩) := (((Below.refl _ w).alloc (Nat.le_refl _) _).cell (Nat.lt_of_lt_of_le (by decide) hG.size)).trans (World.var?_cell gn_forms hG.forms 6)
  have hgs := hG.size
  obtain ⟨X, hX⟩ : ∃ X, Cl.judged ⟨6, h, h2, off, len, path, name, name2, .slice ao dl.length cc, dl⟩ 6 = X := ⟨_, rfl⟩
  rw [hX]
  have HX := Lib.hid hX
  clear hX
  have a_p := fun w => asked_any ⟨#[104, 110]⟩ 112 w (by decide)
  rw [show (bs ⟨#[104, 110]⟩).contains 112 = false by decide] at a_p
  have a_n := fun w => asked_any ⟨#[104, 110]⟩ 110 w (by decide)
  rw [show (bs ⟨#[104, 110]⟩).contains 110 = true by decide] at a_n
  have a_m := fun w => asked_any ⟨#[104, 110]⟩ 109 w (by decide)
  rw [show (bs ⟨#[104, 110]⟩).contains 109 = false by decide] at a_m
  have a_d := fun w => asked_any ⟨#[104, 110]⟩ 100 w (by decide)
  rw [show (bs ⟨#[104, 110]⟩).contains 100 = false by decide] at a_d
  have a_h := fun w => asked_any ⟨#[104, 110]⟩ 104 w (by decide)
  rw [show (bs ⟨#[104, 110]⟩).contains 104 = true by decide] at a_h
  have a_g := fun w => asked_any ⟨#[104, 110]⟩ 103 w (by decide)
  rw [show (bs ⟨#[104, 110]⟩).contains 103 = false by decide] at a_g
  have a_o := fun w => asked_any ⟨#[104, 110]⟩ 111 w (by decide)
  rw [show (bs ⟨#[104, 110]⟩).contains 111 = false by decide] at a_o
  have a_l := fun w => asked_any ⟨#[104, 110]⟩ 108 w (by decide)
  rw [show (bs ⟨#[104, 110]⟩).contains 108 = false by decide] at a_l
  have n_h := fun w => rnumber_any h w
  have n_g := fun w => rnumber_any h2 w
  have n_o := fun w => rnumber_any off w
  have n_l := fun w => rnumber_any len w
  have HB := Lib.hid ((Below.refl _ w).alloc (Nat.le_refl _) (.cells #[.int .i64 6, .int .i64 h, .int .i64 h2, .int .i64 off, .int .i64 len, .string path, .string name, .string name2, .slice ao dl.length cc] 25))
  unfold Cl.val Cl.vals
  simp only
  go_enter Tryd.func36, Tryd.ntmps36
  go_wp2_with fail
  refine (a_p _).mono ?_
  rintro e w1 ⟨rfl, hw1⟩
  subst w1
  clear a_p
  go_wp2_with fail
  refine (a_n _).mono ?_
  rintro e w1 ⟨rfl, hw1⟩
  subst w1
  clear a_n
  go_wp2_with fail
  refine (a_m _).mono ?_
  rintro e w1 ⟨rfl, hw1⟩
  subst w1
  clear a_m
  go_wp2_with fail
  refine (a_d _).mono ?_
  rintro e w1 ⟨rfl, hw1⟩
  subst w1
  clear a_d
  go_wp2_with fail
  refine (a_h _).mono ?_
  rintro e w1 ⟨rfl, hw1⟩
  subst w1
  clear a_h
  go_wp2_with fail
  refine (a_g _).mono ?_
  rintro e w1 ⟨rfl, hw1⟩
  subst w1
  clear a_g
  go_wp2_with fail
  refine (a_o _).mono ?_
  rintro e w1 ⟨rfl, hw1⟩
  subst w1
  clear a_o
  go_wp2_with fail
  refine (a_l _).mono ?_
  rintro e w1 ⟨rfl, hw1⟩
  subst w1
  clear a_l
  go_wp2_with fail
  all_goals first
    | (go_ret; exact ⟨by rw [← HX.out, judged_spare (by (try simp only [tl_empty] at *); simp [Cl.part, docOf, *])]; rfl, (Below.refl _ w).alloc (Nat.le_refl _) _⟩)
    | skip
  refine (rnumber_any _ _).mono ?_
  rintro e w1 ⟨rfl, hw1⟩
  subst w1
  go_wp2_with fail
  refine (rnumber_any _ _).mono ?_
  rintro e w1 ⟨rfl, hw1⟩
  subst w1
  go_wp2_with fail
  refine (rnumber_any _ _).mono ?_
  rintro e w1 ⟨rfl, hw1⟩
  subst w1
  go_wp2_with fail
  refine (rnumber_any _ _).mono ?_
  rintro e w1 ⟨rfl, hw1⟩
  subst w1
  go_wp2_with fail
  all_goals first
    | (go_ret; exact ⟨by rw [← HX.out, judged_num (by (try simp only [tl_empty] at *); simp [Cl.part, docOf, *]) (by simp [Cl.nums, *])]; rfl, (Below.refl _ w).alloc (Nat.le_refl _) _⟩)
    | (go_ret; exact ⟨by rw [← HX.out, judged_ok (by (try simp only [tl_empty] at *); simp [Cl.part, docOf, *]) (by simp [Cl.nums, *])]; rfl, (Below.refl _ w).alloc (Nat.le_refl _) _⟩)
set_option maxHeartbeats 8000000 in
theorem callErr_7 (c : Cl) (hop : c.op = 7) (hf : c.form) (w : World) (hG : Gl w) : Calls Tryd.prog 36 #[c.val] w fun e w' => e = .returned (.int .i64 (Cl.judged c 7)) ∧ Below w.heap.size w w' := by
  obtain ⟨op, h, h2, off, len, path, name, name2, dv, dl⟩ := c
  simp only at hop
  subst hop
  obtain ⟨ao, cc, hd⟩ := hf
  simp only at hd
  subst hd
  have hfc : (w.alloc (.cells #[.int .i64 7, .int .i64 h, .int .i64 h2, .int .i64 off, .int .i64 len, .string path, .string name, .string name2, .slice ao dl.length cc] 25)).cell? ⟨0, 7, none⟩ = some (.string ⟨#[104, 110]⟩) := (((Below.refl _ w).alloc (Nat.le_refl _) _).cell (Nat.lt_of_lt_of_le (by decide) hG.size)).trans (World.var?_cell gn_forms hG.forms 7)
  have hgs := hG.size
  obtain ⟨X, hX⟩ : ∃ X, Cl.judged ⟨7, h, h2, off, len, path, name, name2, .slice ao dl.length cc, dl⟩ 7 = X := ⟨_, rfl⟩
  rw [hX]
  have HX := Lib.hid hX
  clear hX
  have a_p := fun w => asked_any ⟨#[104, 110]⟩ 112 w (by decide)
  rw [show (bs ⟨#[104, 110]⟩).contains 112 = false by decide] at a_p
  have a_n := fun w => asked_any ⟨#[104, 110]⟩ 110 w (by decide)
  rw [show (bs ⟨#[104, 110]⟩).contains 110 = true by decide] at a_n
  have a_m := fun w => asked_any ⟨#[104, 110]⟩ 109 w (by decide)
  rw [show (bs ⟨#[104, 110]⟩).contains 109 = false by decide] at a_m
  have a_d := fun w => asked_any ⟨#[104, 110]⟩ 100 w (by decide)
  rw [show (bs ⟨#[104, 110]⟩).contains 100 = false by decide] at a_d
  have a_h := fun w => asked_any ⟨#[104, 110]⟩ 104 w (by decide)
  rw [show (bs ⟨#[104, 110]⟩).contains 104 = true by decide] at a_h
  have a_g := fun w => asked_any ⟨#[104, 110]⟩ 103 w (by decide)
  rw [show (bs ⟨#[104, 110]⟩).contains 103 = false by decide] at a_g
  have a_o := fun w => asked_any ⟨#[104, 110]⟩ 111 w (by decide)
  rw [show (bs ⟨#[104, 110]⟩).contains 111 = false by decide] at a_o
  have a_l := fun w => asked_any ⟨#[104, 110]⟩ 108 w (by decide)
  rw [show (bs ⟨#[104, 110]⟩).contains 108 = false by decide] at a_l
  have n_h := fun w => rnumber_any h w
  have n_g := fun w => rnumber_any h2 w
  have n_o := fun w => rnumber_any off w
  have n_l := fun w => rnumber_any len w
  have HB := Lib.hid ((Below.refl _ w).alloc (Nat.le_refl _) (.cells #[.int .i64 7, .int .i64 h, .int .i64 h2, .int .i64 off, .int .i64 len, .string path, .string name, .string name2, .slice ao dl.length cc] 25))
  unfold Cl.val Cl.vals
  simp only
  go_enter Tryd.func36, Tryd.ntmps36
  go_wp2_with fail
  refine (a_p _).mono ?_
  rintro e w1 ⟨rfl, hw1⟩
  subst w1
  clear a_p
  go_wp2_with fail
  refine (a_n _).mono ?_
  rintro e w1 ⟨rfl, hw1⟩
  subst w1
  clear a_n
  go_wp2_with fail
  refine (a_m _).mono ?_
  rintro e w1 ⟨rfl, hw1⟩
  subst w1
  clear a_m
  go_wp2_with fail
  refine (a_d _).mono ?_
  rintro e w1 ⟨rfl, hw1⟩
  subst w1
  clear a_d
  go_wp2_with fail
  refine (a_h _).mono ?_
  rintro e w1 ⟨rfl, hw1⟩
  subst w1
  clear a_h
  go_wp2_with fail
  refine (a_g _).mono ?_
  rintro e w1 ⟨rfl, hw1⟩
  subst w1
  clear a_g
  go_wp2_with fail
  refine (a_o _).mono ?_
  rintro e w1 ⟨rfl, hw1⟩
  subst w1
  clear a_o
  go_wp2_with fail
  refine (a_l _).mono ?_
  rintro e w1 ⟨rfl, hw1⟩
  subst w1
  clear a_l
  go_wp2_with fail
  all_goals first
    | (go_ret; exact ⟨by rw [← HX.out, judged_spare (by (try simp only [tl_empty] at *); simp [Cl.part, docOf, *])]; rfl, (Below.refl _ w).alloc (Nat.le_refl _) _⟩)
    | skip
  refine (rnumber_any _ _).mono ?_
  rintro e w1 ⟨rfl, hw1⟩
  subst w1
  go_wp2_with fail
  refine (rnumber_any _ _).mono ?_
  rintro e w1 ⟨rfl, hw1⟩
  subst w1
  go_wp2_with fail
  refine (rnumber_any _ _).mono ?_
  rintro e w1 ⟨rfl, hw1⟩
  subst w1
  go_wp2_with fail
  refine (rnumber_any _ _).mono ?_
  rintro e w1 ⟨rfl, hw1⟩
  subst w1
  go_wp2_with fail
  all_goals first
    | (go_ret; exact ⟨by rw [← HX.out, judged_num (by (try simp only [tl_empty] at *); simp [Cl.part, docOf, *]) (by simp [Cl.nums, *])]; rfl, (Below.refl _ w).alloc (Nat.le_refl _) _⟩)
    | (go_ret; exact ⟨by rw [← HX.out, judged_ok (by (try simp only [tl_empty] at *); simp [Cl.part, docOf, *]) (by simp [Cl.nums, *])]; rfl, (Below.refl _ w).alloc (Nat.le_refl _) _⟩)
set_option maxHeartbeats 8000000 in
theorem callErr_8 (c : Cl) (hop : c.op = 8) (hf : c.form) (w : World) (hG : Gl w) : Calls Tryd.prog 36 #[c.val] w fun e w' => e = .returned (.int .i64 (Cl.judged c 8)) ∧ Below w.heap.size w w' := by
  obtain ⟨op, h, h2, off, len, path, name, name2, dv, dl⟩ := c
  simp only at hop
  subst hop
  obtain ⟨ao, cc, hd⟩ := hf
  simp only at hd
  subst hd
  have hfc : (w.alloc (.cells #[.int .i64 8, .int .i64 h, .int .i64 h2, .int .i64 off, .int .i64 len, .string path, .string name, .string name2, .slice ao dl.length cc] 25)).cell? ⟨0, 8, none⟩ = some (.string ⟨#[104, 110]⟩) := (((Below.refl _ w).alloc (Nat.le_refl _) _).cell (Nat.lt_of_lt_of_le (by decide) hG.size)).trans (World.var?_cell gn_forms hG.forms 8)
  have hgs := hG.size
  obtain ⟨X, hX⟩ : ∃ X, Cl.judged ⟨8, h, h2, off, len, path, name, name2, .slice ao dl.length cc, dl⟩ 8 = X := ⟨_, rfl⟩
  rw [hX]
  have HX := Lib.hid hX
  clear hX
  have a_p := fun w => asked_any ⟨#[104, 110]⟩ 112 w (by decide)
  rw [show (bs ⟨#[104, 110]⟩).contains 112 = false by decide] at a_p
  have a_n := fun w => asked_any ⟨#[104, 110]⟩ 110 w (by decide)
  rw [show (bs ⟨#[104, 110]⟩).contains 110 = true by decide] at a_n
  have a_m := fun w => asked_any ⟨#[104, 110]⟩ 109 w (by decide)
  rw [show (bs ⟨#[104, 110]⟩).contains 109 = false by decide] at a_m
  have a_d := fun w => asked_any ⟨#[104, 110]⟩ 100 w (by decide)
  rw [show (bs ⟨#[104, 110]⟩).contains 100 = false by decide] at a_d
  have a_h := fun w => asked_any ⟨#[104, 110]⟩ 104 w (by decide)
  rw [show (bs ⟨#[104, 110]⟩).contains 104 = true by decide] at a_h
  have a_g := fun w => asked_any ⟨#[104, 110]⟩ 103 w (by decide)
  rw [show (bs ⟨#[104, 110]⟩).contains 103 = false by decide] at a_g
  have a_o := fun w => asked_any ⟨#[104, 110]⟩ 111 w (by decide)
  rw [show (bs ⟨#[104, 110]⟩).contains 111 = false by decide] at a_o
  have a_l := fun w => asked_any ⟨#[104, 110]⟩ 108 w (by decide)
  rw [show (bs ⟨#[104, 110]⟩).contains 108 = false by decide] at a_l
  have n_h := fun w => rnumber_any h w
  have n_g := fun w => rnumber_any h2 w
  have n_o := fun w => rnumber_any off w
  have n_l := fun w => rnumber_any len w
  have HB := Lib.hid ((Below.refl _ w).alloc (Nat.le_refl _) (.cells #[.int .i64 8, .int .i64 h, .int .i64 h2, .int .i64 off, .int .i64 len, .string path, .string name, .string name2, .slice ao dl.length cc] 25))
  unfold Cl.val Cl.vals
  simp only
  go_enter Tryd.func36, Tryd.ntmps36
  go_wp2_with fail
  refine (a_p _).mono ?_
  rintro e w1 ⟨rfl, hw1⟩
  subst w1
  clear a_p
  go_wp2_with fail
  refine (a_n _).mono ?_
  rintro e w1 ⟨rfl, hw1⟩
  subst w1
  clear a_n
  go_wp2_with fail
  refine (a_m _).mono ?_
  rintro e w1 ⟨rfl, hw1⟩
  subst w1
  clear a_m
  go_wp2_with fail
  refine (a_d _).mono ?_
  rintro e w1 ⟨rfl, hw1⟩
  subst w1
  clear a_d
  go_wp2_with fail
  refine (a_h _).mono ?_
  rintro e w1 ⟨rfl, hw1⟩
  subst w1
  clear a_h
  go_wp2_with fail
  refine (a_g _).mono ?_
  rintro e w1 ⟨rfl, hw1⟩
  subst w1
  clear a_g
  go_wp2_with fail
  refine (a_o _).mono ?_
  rintro e w1 ⟨rfl, hw1⟩
  subst w1
  clear a_o
  go_wp2_with fail
  refine (a_l _).mono ?_
  rintro e w1 ⟨rfl, hw1⟩
  subst w1
  clear a_l
  go_wp2_with fail
  all_goals first
    | (go_ret; exact ⟨by rw [← HX.out, judged_spare (by (try simp only [tl_empty] at *); simp [Cl.part, docOf, *])]; rfl, (Below.refl _ w).alloc (Nat.le_refl _) _⟩)
    | skip
  refine (rnumber_any _ _).mono ?_
  rintro e w1 ⟨rfl, hw1⟩
  subst w1
  go_wp2_with fail
  refine (rnumber_any _ _).mono ?_
  rintro e w1 ⟨rfl, hw1⟩
  subst w1
  go_wp2_with fail
  refine (rnumber_any _ _).mono ?_
  rintro e w1 ⟨rfl, hw1⟩
  subst w1
  go_wp2_with fail
  refine (rnumber_any _ _).mono ?_
  rintro e w1 ⟨rfl, hw1⟩
  subst w1
  go_wp2_with fail
  all_goals first
    | (go_ret; exact ⟨by rw [← HX.out, judged_num (by (try simp only [tl_empty] at *); simp [Cl.part, docOf, *]) (by simp [Cl.nums, *])]; rfl, (Below.refl _ w).alloc (Nat.le_refl _) _⟩)
    | (go_ret; exact ⟨by rw [← HX.out, judged_ok (by (try simp only [tl_empty] at *); simp [Cl.part, docOf, *]) (by simp [Cl.nums, *])]; rfl, (Below.refl _ w).alloc (Nat.le_refl _) _⟩)
set_option maxHeartbeats 8000000 in
theorem callErr_9 (c : Cl) (hop : c.op = 9) (hf : c.form) (w : World) (hG : Gl w) : Calls Tryd.prog 36 #[c.val] w fun e w' => e = .returned (.int .i64 (Cl.judged c 9)) ∧ Below w.heap.size w w' := by
  obtain ⟨op, h, h2, off, len, path, name, name2, dv, dl⟩ := c
  simp only at hop
  subst hop
  obtain ⟨ao, cc, hd⟩ := hf
  simp only at hd
  subst hd
  have hfc : (w.alloc (.cells #[.int .i64 9, .int .i64 h, .int .i64 h2, .int .i64 off, .int .i64 len, .string path, .string name, .string name2, .slice ao dl.length cc] 25)).cell? ⟨0, 9, none⟩ = some (.string ⟨#[104, 110, 103, 109]⟩) := (((Below.refl _ w).alloc (Nat.le_refl _) _).cell (Nat.lt_of_lt_of_le (by decide) hG.size)).trans (World.var?_cell gn_forms hG.forms 9)
  have hgs := hG.size
  obtain ⟨X, hX⟩ : ∃ X, Cl.judged ⟨9, h, h2, off, len, path, name, name2, .slice ao dl.length cc, dl⟩ 9 = X := ⟨_, rfl⟩
  rw [hX]
  have HX := Lib.hid hX
  clear hX
  have a_p := fun w => asked_any ⟨#[104, 110, 103, 109]⟩ 112 w (by decide)
  rw [show (bs ⟨#[104, 110, 103, 109]⟩).contains 112 = false by decide] at a_p
  have a_n := fun w => asked_any ⟨#[104, 110, 103, 109]⟩ 110 w (by decide)
  rw [show (bs ⟨#[104, 110, 103, 109]⟩).contains 110 = true by decide] at a_n
  have a_m := fun w => asked_any ⟨#[104, 110, 103, 109]⟩ 109 w (by decide)
  rw [show (bs ⟨#[104, 110, 103, 109]⟩).contains 109 = true by decide] at a_m
  have a_d := fun w => asked_any ⟨#[104, 110, 103, 109]⟩ 100 w (by decide)
  rw [show (bs ⟨#[104, 110, 103, 109]⟩).contains 100 = false by decide] at a_d
  have a_h := fun w => asked_any ⟨#[104, 110, 103, 109]⟩ 104 w (by decide)
  rw [show (bs ⟨#[104, 110, 103, 109]⟩).contains 104 = true by decide] at a_h
  have a_g := fun w => asked_any ⟨#[104, 110, 103, 109]⟩ 103 w (by decide)
  rw [show (bs ⟨#[104, 110, 103, 109]⟩).contains 103 = true by decide] at a_g
  have a_o := fun w => asked_any ⟨#[104, 110, 103, 109]⟩ 111 w (by decide)
  rw [show (bs ⟨#[104, 110, 103, 109]⟩).contains 111 = false by decide] at a_o
  have a_l := fun w => asked_any ⟨#[104, 110, 103, 109]⟩ 108 w (by decide)
  rw [show (bs ⟨#[104, 110, 103, 109]⟩).contains 108 = false by decide] at a_l
  have n_h := fun w => rnumber_any h w
  have n_g := fun w => rnumber_any h2 w
  have n_o := fun w => rnumber_any off w
  have n_l := fun w => rnumber_any len w
  have HB := Lib.hid ((Below.refl _ w).alloc (Nat.le_refl _) (.cells #[.int .i64 9, .int .i64 h, .int .i64 h2, .int .i64 off, .int .i64 len, .string path, .string name, .string name2, .slice ao dl.length cc] 25))
  unfold Cl.val Cl.vals
  simp only
  go_enter Tryd.func36, Tryd.ntmps36
  go_wp2_with fail
  refine (a_p _).mono ?_
  rintro e w1 ⟨rfl, hw1⟩
  subst w1
  clear a_p
  go_wp2_with fail
  refine (a_n _).mono ?_
  rintro e w1 ⟨rfl, hw1⟩
  subst w1
  clear a_n
  go_wp2_with fail
  refine (a_m _).mono ?_
  rintro e w1 ⟨rfl, hw1⟩
  subst w1
  clear a_m
  go_wp2_with fail
  refine (a_d _).mono ?_
  rintro e w1 ⟨rfl, hw1⟩
  subst w1
  clear a_d
  go_wp2_with fail
  refine (a_h _).mono ?_
  rintro e w1 ⟨rfl, hw1⟩
  subst w1
  clear a_h
  go_wp2_with fail
  refine (a_g _).mono ?_
  rintro e w1 ⟨rfl, hw1⟩
  subst w1
  clear a_g
  go_wp2_with fail
  refine (a_o _).mono ?_
  rintro e w1 ⟨rfl, hw1⟩
  subst w1
  clear a_o
  go_wp2_with fail
  refine (a_l _).mono ?_
  rintro e w1 ⟨rfl, hw1⟩
  subst w1
  clear a_l
  go_wp2_with fail
  all_goals first
    | (go_ret; exact ⟨by rw [← HX.out, judged_spare (by (try simp only [tl_empty] at *); simp [Cl.part, docOf, *])]; rfl, (Below.refl _ w).alloc (Nat.le_refl _) _⟩)
    | skip
  refine (rnumber_any _ _).mono ?_
  rintro e w1 ⟨rfl, hw1⟩
  subst w1
  go_wp2_with fail
  refine (rnumber_any _ _).mono ?_
  rintro e w1 ⟨rfl, hw1⟩
  subst w1
  go_wp2_with fail
  refine (rnumber_any _ _).mono ?_
  rintro e w1 ⟨rfl, hw1⟩
  subst w1
  go_wp2_with fail
  refine (rnumber_any _ _).mono ?_
  rintro e w1 ⟨rfl, hw1⟩
  subst w1
  go_wp2_with fail
  all_goals first
    | (go_ret; exact ⟨by rw [← HX.out, judged_num (by (try simp only [tl_empty] at *); simp [Cl.part, docOf, *]) (by simp [Cl.nums, *])]; rfl, (Below.refl _ w).alloc (Nat.le_refl _) _⟩)
    | (go_ret; exact ⟨by rw [← HX.out, judged_ok (by (try simp only [tl_empty] at *); simp [Cl.part, docOf, *]) (by simp [Cl.nums, *])]; rfl, (Below.refl _ w).alloc (Nat.le_refl _) _⟩)
set_option maxHeartbeats 8000000 in
theorem callErr_10 (c : Cl) (hop : c.op = 10) (hf : c.form) (w : World) (hG : Gl w) : Calls Tryd.prog 36 #[c.val] w fun e w' => e = .returned (.int .i64 (Cl.judged c 10)) ∧ Below w.heap.size w w' := by
  obtain ⟨op, h, h2, off, len, path, name, name2, dv, dl⟩ := c
  simp only at hop
  subst hop
  obtain ⟨ao, cc, hd⟩ := hf
  simp only at hd
  subst hd
  have hfc : (w.alloc (.cells #[.int .i64 10, .int .i64 h, .int .i64 h2, .int .i64 off, .int .i64 len, .string path, .string name, .string name2, .slice ao dl.length cc] 25)).cell? ⟨0, 10, none⟩ = some (.string ⟨#[104, 110, 108]⟩) := (((Below.refl _ w).alloc (Nat.le_refl _) _).cell (Nat.lt_of_lt_of_le (by decide) hG.size)).trans (World.var?_cell gn_forms hG.forms 10)
  have hgs := hG.size
  obtain ⟨X, hX⟩ : ∃ X, Cl.judged ⟨10, h, h2, off, len, path, name, name2, .slice ao dl.length cc, dl⟩ 10 = X := ⟨_, rfl⟩
  rw [hX]
  have HX := Lib.hid hX
  clear hX
  have a_p := fun w => asked_any ⟨#[104, 110, 108]⟩ 112 w (by decide)
  rw [show (bs ⟨#[104, 110, 108]⟩).contains 112 = false by decide] at a_p
  have a_n := fun w => asked_any ⟨#[104, 110, 108]⟩ 110 w (by decide)
  rw [show (bs ⟨#[104, 110, 108]⟩).contains 110 = true by decide] at a_n
  have a_m := fun w => asked_any ⟨#[104, 110, 108]⟩ 109 w (by decide)
  rw [show (bs ⟨#[104, 110, 108]⟩).contains 109 = false by decide] at a_m
  have a_d := fun w => asked_any ⟨#[104, 110, 108]⟩ 100 w (by decide)
  rw [show (bs ⟨#[104, 110, 108]⟩).contains 100 = false by decide] at a_d
  have a_h := fun w => asked_any ⟨#[104, 110, 108]⟩ 104 w (by decide)
  rw [show (bs ⟨#[104, 110, 108]⟩).contains 104 = true by decide] at a_h
  have a_g := fun w => asked_any ⟨#[104, 110, 108]⟩ 103 w (by decide)
  rw [show (bs ⟨#[104, 110, 108]⟩).contains 103 = false by decide] at a_g
  have a_o := fun w => asked_any ⟨#[104, 110, 108]⟩ 111 w (by decide)
  rw [show (bs ⟨#[104, 110, 108]⟩).contains 111 = false by decide] at a_o
  have a_l := fun w => asked_any ⟨#[104, 110, 108]⟩ 108 w (by decide)
  rw [show (bs ⟨#[104, 110, 108]⟩).contains 108 = true by decide] at a_l
  have n_h := fun w => rnumber_any h w
  have n_g := fun w => rnumber_any h2 w
  have n_o := fun w => rnumber_any off w
  have n_l := fun w => rnumber_any len w
  have HB := Lib.hid ((Below.refl _ w).alloc (Nat.le_refl _) (.cells #[.int .i64 10, .int .i64 h, .int .i64 h2, .int .i64 off, .int .i64 len, .string path, .string name, .string name2, .slice ao dl.length cc] 25))
  unfold Cl.val Cl.vals
  simp only
  go_enter Tryd.func36, Tryd.ntmps36
  go_wp2_with fail
  refine (a_p _).mono ?_
  rintro e w1 ⟨rfl, hw1⟩
  subst w1
  clear a_p
  go_wp2_with fail
  refine (a_n _).mono ?_
  rintro e w1 ⟨rfl, hw1⟩
  subst w1
  clear a_n
  go_wp2_with fail
  refine (a_m _).mono ?_
  rintro e w1 ⟨rfl, hw1⟩
  subst w1
  clear a_m
  go_wp2_with fail
  refine (a_d _).mono ?_
  rintro e w1 ⟨rfl, hw1⟩
  subst w1
  clear a_d
  go_wp2_with fail
  refine (a_h _).mono ?_
  rintro e w1 ⟨rfl, hw1⟩
  subst w1
  clear a_h
  go_wp2_with fail
  refine (a_g _).mono ?_
  rintro e w1 ⟨rfl, hw1⟩
  subst w1
  clear a_g
  go_wp2_with fail
  refine (a_o _).mono ?_
  rintro e w1 ⟨rfl, hw1⟩
  subst w1
  clear a_o
  go_wp2_with fail
  refine (a_l _).mono ?_
  rintro e w1 ⟨rfl, hw1⟩
  subst w1
  clear a_l
  go_wp2_with fail
  all_goals first
    | (go_ret; exact ⟨by rw [← HX.out, judged_spare (by (try simp only [tl_empty] at *); simp [Cl.part, docOf, *])]; rfl, (Below.refl _ w).alloc (Nat.le_refl _) _⟩)
    | skip
  refine (rnumber_any _ _).mono ?_
  rintro e w1 ⟨rfl, hw1⟩
  subst w1
  go_wp2_with fail
  refine (rnumber_any _ _).mono ?_
  rintro e w1 ⟨rfl, hw1⟩
  subst w1
  go_wp2_with fail
  refine (rnumber_any _ _).mono ?_
  rintro e w1 ⟨rfl, hw1⟩
  subst w1
  go_wp2_with fail
  refine (rnumber_any _ _).mono ?_
  rintro e w1 ⟨rfl, hw1⟩
  subst w1
  go_wp2_with fail
  all_goals first
    | (go_ret; exact ⟨by rw [← HX.out, judged_num (by (try simp only [tl_empty] at *); simp [Cl.part, docOf, *]) (by simp [Cl.nums, *])]; rfl, (Below.refl _ w).alloc (Nat.le_refl _) _⟩)
    | (go_ret; exact ⟨by rw [← HX.out, judged_ok (by (try simp only [tl_empty] at *); simp [Cl.part, docOf, *]) (by simp [Cl.nums, *])]; rfl, (Below.refl _ w).alloc (Nat.le_refl _) _⟩)
end Go.Proofs.YtjkmdacgiebbfaaDoor
