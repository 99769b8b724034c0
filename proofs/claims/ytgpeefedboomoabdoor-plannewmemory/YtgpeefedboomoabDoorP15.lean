/- first: the answers that the document fixes. -/
import Derived.Test.YtgpeefedboomoabDoorP14
namespace Go.Proofs.YtgpeefedboomoabDoor
open Go.RowKit
set_option maxRecDepth 100000

attribute [local go_sem ↓ 100000] ly_store ly_load
attribute [local go_sem] LyStore.new LyLoad.new LyStore.at LyLoad.at

theorem first_wh : whA smL 58 = (6, 3) := by decide

set_option maxHeartbeats 4000000 in
theorem first_any (w : World) (hB : Bds w) : Calls Tryd.prog 7 #[] w fun e w' => e = .returned (.bool true) ∧ Below w.heap.size w w' := by
  go_enter Tryd.func7, Tryd.ntmps7
  go_wp2_with fail
  refine (small_any _).mono ?_
  rintro e w1 ⟨rfl, hb1⟩
  have hn := box2 w1 (.cells #[.int .i64 smS.cl, .int .i64 smS.wi, .int .i64 smS.pl, .int .i64 smS.ca, .int .i64 smS.ino, .int .i64 smS.qu, .int .i64 smS.da, .int .i64 smS.jo] 33) (.cells #[.int .i64 smL.bo, .int .i64 smL.jr, .int .i64 smL.jl, .int .i64 smL.le, .int .i64 smL.ll, .int .i64 smL.bi, .int .i64 smL.bl, .int .i64 smL.ta, .int .i64 smL.tl, .int .i64 smL.dt, .int .i64 smL.dl, .int .i64 smL.to, .int .i64 smL.sh.cl, .int .i64 smL.sh.wi, .int .i64 smL.sh.pl, .int .i64 smL.sh.ca, .int .i64 smL.sh.ino, .int .i64 smL.sh.qu, .int .i64 smL.sh.da, .int .i64 smL.sh.jo] 40)
  have hs2 : w1.heap.size + 1 < ((w1.alloc (.cells #[.int .i64 smS.cl, .int .i64 smS.wi, .int .i64 smS.pl, .int .i64 smS.ca, .int .i64 smS.ino, .int .i64 smS.qu, .int .i64 smS.da, .int .i64 smS.jo] 33)).alloc (.cells #[.int .i64 smL.bo, .int .i64 smL.jr, .int .i64 smL.jl, .int .i64 smL.le, .int .i64 smL.ll, .int .i64 smL.bi, .int .i64 smL.bl, .int .i64 smL.ta, .int .i64 smL.tl, .int .i64 smL.dt, .int .i64 smL.dl, .int .i64 smL.to, .int .i64 smL.sh.cl, .int .i64 smL.sh.wi, .int .i64 smL.sh.pl, .int .i64 smL.sh.ca, .int .i64 smL.sh.ino, .int .i64 smL.sh.qu, .int .i64 smL.sh.da, .int .i64 smL.sh.jo] 40)).heap.size := by simp
  have hS2 : ShBox ((w1.alloc (.cells #[.int .i64 smS.cl, .int .i64 smS.wi, .int .i64 smS.pl, .int .i64 smS.ca, .int .i64 smS.ino, .int .i64 smS.qu, .int .i64 smS.da, .int .i64 smS.jo] 33)).alloc (.cells #[.int .i64 smL.bo, .int .i64 smL.jr, .int .i64 smL.jl, .int .i64 smL.le, .int .i64 smL.ll, .int .i64 smL.bi, .int .i64 smL.bl, .int .i64 smL.ta, .int .i64 smL.tl, .int .i64 smL.dt, .int .i64 smL.dl, .int .i64 smL.to, .int .i64 smL.sh.cl, .int .i64 smL.sh.wi, .int .i64 smL.sh.pl, .int .i64 smL.sh.ca, .int .i64 smL.sh.ino, .int .i64 smL.sh.qu, .int .i64 smL.sh.da, .int .i64 smL.sh.jo] 40)) w1.heap.size smS := (ShBox.new w1 smS).later (newBox _ _) (by simp)
  have hL2 : ((w1.alloc (.cells #[.int .i64 smS.cl, .int .i64 smS.wi, .int .i64 smS.pl, .int .i64 smS.ca, .int .i64 smS.ino, .int .i64 smS.qu, .int .i64 smS.da, .int .i64 smS.jo] 33)).alloc (.cells #[.int .i64 smL.bo, .int .i64 smL.jr, .int .i64 smL.jl, .int .i64 smL.le, .int .i64 smL.ll, .int .i64 smL.bi, .int .i64 smL.bl, .int .i64 smL.ta, .int .i64 smL.tl, .int .i64 smL.dt, .int .i64 smL.dl, .int .i64 smL.to, .int .i64 smL.sh.cl, .int .i64 smL.sh.wi, .int .i64 smL.sh.pl, .int .i64 smL.sh.ca, .int .i64 smL.sh.ino, .int .i64 smL.sh.qu, .int .i64 smL.sh.da, .int .i64 smL.sh.jo] 40)).heap[w1.heap.size + 1]? = some (.cells #[.int .i64 smL.bo, .int .i64 smL.jr, .int .i64 smL.jl, .int .i64 smL.le, .int .i64 smL.ll, .int .i64 smL.bi, .int .i64 smL.bl, .int .i64 smL.ta, .int .i64 smL.tl, .int .i64 smL.dt, .int .i64 smL.dl, .int .i64 smL.to, .int .i64 smL.sh.cl, .int .i64 smL.sh.wi, .int .i64 smL.sh.pl, .int .i64 smL.sh.ca, .int .i64 smL.sh.ino, .int .i64 smL.sh.qu, .int .i64 smL.sh.da, .int .i64 smL.sh.jo] 40 (0, 0)) := heap_new2 w1 _ _
  have hD2 := (hB.later hb1 (Nat.le_refl _)).later hn (Nat.le_refl _)
  have hq2 := hb1.trans (hn.mono hb1.size)
  clear hB hb1 hn
  obtain ⟨a0, a1, a2, a3, a4, a5, a6, a7⟩ := hS2
  go_wp2_with fail
  generalize ((w1.alloc (.cells #[.int .i64 smS.cl, .int .i64 smS.wi, .int .i64 smS.pl, .int .i64 smS.ca, .int .i64 smS.ino, .int .i64 smS.qu, .int .i64 smS.da, .int .i64 smS.jo] 33)).alloc (.cells #[.int .i64 smL.bo, .int .i64 smL.jr, .int .i64 smL.jl, .int .i64 smL.le, .int .i64 smL.ll, .int .i64 smL.bi, .int .i64 smL.bl, .int .i64 smL.ta, .int .i64 smL.tl, .int .i64 smL.dt, .int .i64 smL.dl, .int .i64 smL.to, .int .i64 smL.sh.cl, .int .i64 smL.sh.wi, .int .i64 smL.sh.pl, .int .i64 smL.sh.ca, .int .i64 smL.sh.ino, .int .i64 smL.sh.qu, .int .i64 smL.sh.da, .int .i64 smL.sh.jo] 40)) = w2 at *
  refine (plan_any smS _ hD2).mono ?_
  rintro e w3 ⟨rfl, hb3⟩
  rw [smP, smE]
  have hS3 := (ShBox.mk a0 a1 a2 a3 a4 a5 a6 a7).later hb3 (by omega)
  clear a0 a1 a2 a3 a4 a5 a6 a7
  have hL3 := (hb3.block _ (lt_of_block hL2)).trans hL2
  have hD3 := hD2.later hb3 (Nat.le_refl _)
  have hq3 := hq2.trans (hb3.mono hq2.size)
  have hs3 := Nat.lt_of_lt_of_le hs2 hb3.size
  clear hL2 hD2 hq2 hs2 hb3
  have hn := newBox w3 (.cells #[.int .i64 smL.bo, .int .i64 smL.jr, .int .i64 smL.jl, .int .i64 smL.le, .int .i64 smL.ll, .int .i64 smL.bi, .int .i64 smL.bl, .int .i64 smL.ta, .int .i64 smL.tl, .int .i64 smL.dt, .int .i64 smL.dl, .int .i64 smL.to, .int .i64 smL.sh.cl, .int .i64 smL.sh.wi, .int .i64 smL.sh.pl, .int .i64 smL.sh.ca, .int .i64 smL.sh.ino, .int .i64 smL.sh.qu, .int .i64 smL.sh.da, .int .i64 smL.sh.jo] 40)
  have hS4 := hS3.later hn (by omega)
  have hL4 := (hn.block _ (lt_of_block hL3)).trans hL3
  have hP4 : (w3.alloc (.cells #[.int .i64 smL.bo, .int .i64 smL.jr, .int .i64 smL.jl, .int .i64 smL.le, .int .i64 smL.ll, .int .i64 smL.bi, .int .i64 smL.bl, .int .i64 smL.ta, .int .i64 smL.tl, .int .i64 smL.dt, .int .i64 smL.dl, .int .i64 smL.to, .int .i64 smL.sh.cl, .int .i64 smL.sh.wi, .int .i64 smL.sh.pl, .int .i64 smL.sh.ca, .int .i64 smL.sh.ino, .int .i64 smL.sh.qu, .int .i64 smL.sh.da, .int .i64 smL.sh.jo] 40)).heap[w3.heap.size]? = some (.cells #[.int .i64 smL.bo, .int .i64 smL.jr, .int .i64 smL.jl, .int .i64 smL.le, .int .i64 smL.ll, .int .i64 smL.bi, .int .i64 smL.bl, .int .i64 smL.ta, .int .i64 smL.tl, .int .i64 smL.dt, .int .i64 smL.dl, .int .i64 smL.to, .int .i64 smL.sh.cl, .int .i64 smL.sh.wi, .int .i64 smL.sh.pl, .int .i64 smL.sh.ca, .int .i64 smL.sh.ino, .int .i64 smL.sh.qu, .int .i64 smL.sh.da, .int .i64 smL.sh.jo] 40 (0, 0)) := heap_alloc_last w3 _
  have hD4 := hD3.later hn (Nat.le_refl _)
  have hq4 := hq3.trans (hn.mono hq3.size)
  have hs4 := Nat.lt_of_lt_of_le hs3 hn.size
  clear hS3 hL3 hD3 hq3 hs3 hn
  have hld := LyLoad.row hL4 rfl
  go_wp2_with fail
  clear hld
  generalize w3.alloc (.cells #[.int .i64 smL.bo, .int .i64 smL.jr, .int .i64 smL.jl, .int .i64 smL.le, .int .i64 smL.ll, .int .i64 smL.bi, .int .i64 smL.bl, .int .i64 smL.ta, .int .i64 smL.tl, .int .i64 smL.dt, .int .i64 smL.dl, .int .i64 smL.to, .int .i64 smL.sh.cl, .int .i64 smL.sh.wi, .int .i64 smL.sh.pl, .int .i64 smL.sh.ca, .int .i64 smL.sh.ino, .int .i64 smL.sh.qu, .int .i64 smL.sh.da, .int .i64 smL.sh.jo] 40) = w4 at *
  refine (sameLayout_any smL smL _).mono ?_
  rintro e w5 ⟨rfl, hb5⟩
  rw [decide_eq_true (rfl : smL = smL)]
  have hS5 := hS4.later hb5 (by omega)
  have hL5 := (hb5.block _ (lt_of_block hL4)).trans hL4
  have hD5 := hD4.later hb5 (Nat.le_refl _)
  have hq5 := hq4.trans (hb5.mono hq4.size)
  have hs5 := Nat.lt_of_lt_of_le hs4 hb5.size
  clear hS4 hL4 hP4 hD4 hq4 hs4 hb5
  obtain ⟨a0, a1, a2, a3, a4, a5, a6, a7⟩ := hS5
  go_wp2_with fail
  refine (super_any smS _ hD5).mono ?_
  rintro e w6 ⟨ao, n, c, rfl, hb6, _, hok⟩
  obtain ⟨rfl, rfl, g, rfl, _, hr⟩ := hok smE
  rw [smE]
  have hS6 := (ShBox.mk a0 a1 a2 a3 a4 a5 a6 a7).later hb6 (by omega)
  clear a0 a1 a2 a3 a4 a5 a6 a7 hok
  have hL6 := (hb6.block _ (lt_of_block hL5)).trans hL5
  have hD6 := hD5.later hb6 (Nat.le_refl _)
  have hq6 := hq5.trans (hb6.mono hq5.size)
  have hs6 := Nat.lt_of_lt_of_le hs5 hb6.size
  clear hL5 hD5 hq5 hs5 hb6
  go_wp2_with fail
  refine (readSuper_any _ 512 512 (superB smS) _ hD6 (lies_bl hr (superB_length _)) (superB_by _)).mono ?_
  rintro e w7 ⟨rfl, hb7⟩
  rw [rs_back smE]
  have hS7 := hS6.later hb7 (by omega)
  have hL7 := (hb7.block _ (lt_of_block hL6)).trans hL6
  have hD7 := hD6.later hb7 (Nat.le_refl _)
  have hq7 := hq6.trans (hb7.mono hq6.size)
  have hs7 := Nat.lt_of_lt_of_le hs6 hb7.size
  clear hS6 hL6 hD6 hq6 hs6 hb7 hr
  have hn := newBox w7 (.cells #[.int .i64 smS.cl, .int .i64 smS.wi, .int .i64 smS.pl, .int .i64 smS.ca, .int .i64 smS.ino, .int .i64 smS.qu, .int .i64 smS.da, .int .i64 smS.jo] 33)
  have hS8 := hS7.later hn (by omega)
  have hT8 := ShBox.new w7 smS
  have hL8 := (hn.block _ (lt_of_block hL7)).trans hL7
  have hD8 := hD7.later hn (Nat.le_refl _)
  have hq8 := hq7.trans (hn.mono hq7.size)
  clear hS7 hL7 hD7 hq7 hn
  obtain ⟨a0, a1, a2, a3, a4, a5, a6, a7⟩ := hS8
  go_wp2_with fail
  clear a0 a1 a2 a3 a4 a5 a6 a7 hT8
  generalize w7.alloc (.cells #[.int .i64 smS.cl, .int .i64 smS.wi, .int .i64 smS.pl, .int .i64 smS.ca, .int .i64 smS.ino, .int .i64 smS.qu, .int .i64 smS.da, .int .i64 smS.jo] 33) = w8 at *
  refine (sameShape_any smS smS _).mono ?_
  rintro e w9 ⟨rfl, hb9⟩
  rw [decide_eq_true (rfl : smS = smS)]
  have hL9 := (hb9.block _ (lt_of_block hL8)).trans hL8
  have hD9 := hD8.later hb9 (Nat.le_refl _)
  have hq9 := hq8.trans (hb9.mono hq8.size)
  clear hL8 hD8 hq8 hb9 hs7
  have hld := LyLoad.row hL9 rfl
  go_wp2_with fail
  refine (where_any smL 58 _ hD9 (by omega) (by omega)).mono ?_
  rintro e w10 ⟨rfl, hb10⟩
  rw [first_wh]
  have hq10 := hq9.trans (hb10.mono hq9.size)
  clear hld hL9 hD9 hq9 hb10
  go_wp2_with (go_at_call 13; refine (num_id _ _).mono ?_; rintro e wn ⟨rfl, hwn⟩; subst wn)
  go_ret
  exact ⟨rfl, hq10⟩
end Go.Proofs.YtgpeefedboomoabDoor
