/- The document's own put and Super by their contracts. -/
import Derived.Test.YtgpeefedboomoabDoorP19
import Derived.Test.YtgpeefedboomoabDoorRZ
import Derived.Test.YtgpeefedboomoabDoorSRef
namespace Go.Proofs.YtgpeefedboomoabDoor
open Go.RowKit
set_option maxRecDepth 100000

attribute [local go_sem ↓ 100000] ly_store ly_load
attribute [local go_sem] LyStore.new LyLoad.new LyStore.at LyLoad.at

set_option maxHeartbeats 1000000 in
theorem rput_any (ao : Option Addr) (len cap sz : Nat) (X : Int) (bs : List Int) (w : World) (_hX0 : 0 ≤ X) (_hX1 : X ≤ 18446744073709551615) (hsz : sz ≤ 8) (hn : len ≤ 1000000) (hL : Lies w ao len cap bs) :
    Calls Tryd.prog 29 #[.slice ao len cap, .int .u64 X, .int .i64 sz] w fun e w' => Fresh w e w' (len + sz) (bs ++ be X sz) := by
  obtain ⟨i0, hi, hz0, hz1, hz2⟩ := info_parts Tryd.info5
  have hszi : (sz : Int) ≤ 8 := by omega
  go_enter Tryd.func29, Tryd.ntmps29
  go_wp2_with fail
  refine (bytes29_any ao len cap bs _ (by omega) hL).mono ?_
  rintro e w1 ⟨bo, c1, rfl, ho1, hb1⟩
  go_wp2_with fail
  go_loopw [7, 8] (fun v i wr => ∃ (m : Nat) (pre : List Int), m ≤ sz ∧ i = .int .i64 ((m : Int) - 1) ∧ wr.ownsRow w.heap.size 5 1 v (len + (sz - m)) ((bs ++ pre).map (Value.int .u8)) ∧ pre ++ be X m = be X sz ∧ Below w.heap.size w wr) (fun _ i _ => (intOf i + 1).toNat)
  case atStart => exact ⟨sz, [], Nat.le_refl _, by go_num, by simpa using ho1, rfl, hb1⟩
  case round =>
    clear ho1 hb1 hL
    obtain ⟨m, pre, hm, rfl, hown, hpre, hb⟩ := hrel
    by_cases hm0 : 0 < m
    · obtain ⟨m, rfl⟩ : ∃ k, m = k + 1 := ⟨m - 1, by omega⟩
      have HP : Hid (pre ++ be X (m + 1) = be X sz) := hpre
      clear hpre
      have h1 : (0 : Int) ≤ m := by omega
      have h2 : (m : Int) < 8 := by omega
      go_wp2_with (at_builtin; refine wpList_append_own_wide _ rfl (.tmp 17) (.tmp 23) 26 rfl w.heap.size 5 i0 (.int .u8 0) 1 1 Tryd.underlying26 hi hz0 hz1 hz2 rfl (by decide) _ _ _ rfl (hown.alloc _) ⟨wr.heap.size, 0, none⟩ 1 1 [.int .u8 (X / 2 ^ (8 * m) % 256)] rfl rfl (cell_one_new _ _ _) (by intro u hu; simp at hu; subst hu; rfl) (by unfold maxLen; omega) (by omega) (by have := hb.size; simp; omega) ?_; intro v' w2 hown2 hgrow2 hnil2)
      have e0 : len + (sz - (m + 1)) + 1 = len + (sz - m) := by omega
      go_roundw
      case rel =>
        refine ⟨m, pre ++ [X / 2 ^ (8 * m) % 256], by omega, by go_num, ?_, ?_, ?_⟩
        · rw [← e0]; simpa using hown2
        · rw [List.append_assoc]; exact HP.out
        · exact (hb.alloc hb.size _).grown hgrow2 (by simp; have := hb.size; omega) (fun k hk => (hown.lt k hk).1)
      case measure => simp [intOf]
    · have h1 : (m : Int) ≤ 0 := by omega
      have HP : Hid (pre ++ be X m = be X sz) := hpre
      clear hpre
      go_wp2_with fail
      go_ret
      obtain rfl : m = 0 := by omega
      have hpre := HP.out
      simp only [be, List.append_nil] at hpre
      rw [hpre, show len + (sz - 0) = len + sz by omega] at hown
      obtain ⟨a2, c2, rfl⟩ := own_len hown
      exact ⟨a2, c2, rfl, hown, hb⟩
theorem num_cell {w : World} {g : Nat} {s : Shp} (h : w.heap[g]? = some (.cells #[.int .i64 s.cl, .int .i64 s.wi, .int .i64 s.pl, .int .i64 s.ca, .int .i64 s.ino, .int .i64 s.qu, .int .i64 s.da, .int .i64 s.jo] 3 (0, 0))) (k : Nat) (hk : k < 8) : w.cell? ⟨g, k, none⟩ = some (.int .i64 (s.nums.getD k 0)) := by
  simp only [World.cell?, h]
  obtain rfl | rfl | rfl | rfl | rfl | rfl | rfl | rfl : k = 0 ∨ k = 1 ∨ k = 2 ∨ k = 3 ∨ k = 4 ∨ k = 5 ∨ k = 6 ∨ k = 7 := by omega
  all_goals rfl

set_option maxHeartbeats 4000000 in
theorem rsuper_any (s : Shp) (w : World) :
    Calls Tryd.prog 16 #[shV s] w fun e w' => ∃ ao n c, e = .returned (.tuple #[.slice ao n c, .int .i64 (planE s)]) ∧ Below w.heap.size w w' ∧
      (planE s ≠ 0 → ao = none ∧ n = 0 ∧ c = 0) ∧ (planE s = 0 → n = 512 ∧ Lies w' ao n c (superB s)) := by
  have hq := Below.refl w.heap.size w
  go_enter Tryd.func16, Tryd.ntmps16
  have hn := newBox w (.cells #[.int .i64 s.cl, .int .i64 s.wi, .int .i64 s.pl, .int .i64 s.ca, .int .i64 s.ino, .int .i64 s.qu, .int .i64 s.da, .int .i64 s.jo] 33)
  have hS_1 := ShBox.new w s
  have lt_hS_1 : w.heap.size < (w.alloc (.cells #[.int .i64 s.cl, .int .i64 s.wi, .int .i64 s.pl, .int .i64 s.ca, .int .i64 s.ino, .int .i64 s.qu, .int .i64 s.da, .int .i64 s.jo] 33)).heap.size := by simp
  have hq_1 := hq.trans (hn.mono hq.size)
  clear hq hn
  obtain ⟨a0, a1, a2, a3, a4, a5, a6, a7⟩ := hS_1
  go_wp2_with fail
  have hS_1 := ShBox.mk a0 a1 a2 a3 a4 a5 a6 a7
  clear a0 a1 a2 a3 a4 a5 a6 a7
  generalize (w.alloc (.cells #[.int .i64 s.cl, .int .i64 s.wi, .int .i64 s.pl, .int .i64 s.ca, .int .i64 s.ino, .int .i64 s.qu, .int .i64 s.da, .int .i64 s.jo] 33)) = w1 at *
  refine (rplan_any s _).mono ?_
  rintro e w2 ⟨rfl, hb⟩
  have hq_2 := hq_1.trans (hb.mono hq_1.size)
  have hS_2 := hS_1.later hb (by first | exact lt_hS_1 | omega)
  have lt_hS_2 := Nat.lt_of_lt_of_le lt_hS_1 hb.size
  clear hq_1 hS_1 lt_hS_1 hb
  have hn := newBox w2 (.cells #[.int .i64 (planL s).bo, .int .i64 (planL s).jr, .int .i64 (planL s).jl, .int .i64 (planL s).le, .int .i64 (planL s).ll, .int .i64 (planL s).bi, .int .i64 (planL s).bl, .int .i64 (planL s).ta, .int .i64 (planL s).tl, .int .i64 (planL s).dt, .int .i64 (planL s).dl, .int .i64 (planL s).to, .int .i64 (planL s).sh.cl, .int .i64 (planL s).sh.wi, .int .i64 (planL s).sh.pl, .int .i64 (planL s).sh.ca, .int .i64 (planL s).sh.ino, .int .i64 (planL s).sh.qu, .int .i64 (planL s).sh.da, .int .i64 (planL s).sh.jo] 40)
  have hq_3 := hq_2.trans (hn.mono hq_2.size)
  have hS_3 := hS_2.later hn (by first | exact lt_hS_2 | omega)
  have lt_hS_3 := Nat.lt_of_lt_of_le lt_hS_2 hn.size
  clear hq_2 hS_2 lt_hS_2 hn
  by_cases hp : planE s = 0
  case neg =>
    have hx : (planE s != 0) = true := by simpa using hp
    have HP : Hid (¬ planE s = 0) := hp
    clear hp hS_3
    go_wp2_with fail
    go_ret2
    exact ⟨_, _, _, rfl, hq_3, fun _ => ⟨rfl, rfl, rfl⟩, fun h => absurd h HP.out⟩
  have hx : (planE s != 0) = false := by simp [hp]
  have hin := planE_in hp
  have HP : Hid (planE s = 0) := hp
  clear hp
  have hn := newBox (w2.alloc (.cells #[.int .i64 (planL s).bo, .int .i64 (planL s).jr, .int .i64 (planL s).jl, .int .i64 (planL s).le, .int .i64 (planL s).ll, .int .i64 (planL s).bi, .int .i64 (planL s).bl, .int .i64 (planL s).ta, .int .i64 (planL s).tl, .int .i64 (planL s).dt, .int .i64 (planL s).dl, .int .i64 (planL s).to, .int .i64 (planL s).sh.cl, .int .i64 (planL s).sh.wi, .int .i64 (planL s).sh.pl, .int .i64 (planL s).sh.ca, .int .i64 (planL s).sh.ino, .int .i64 (planL s).sh.qu, .int .i64 (planL s).sh.da, .int .i64 (planL s).sh.jo] 40)) (.cells #[.int .u8 65, .int .u8 78, .int .u8 88, .int .u8 83] 5)
  have hL0 : Lies ((w2.alloc (.cells #[.int .i64 (planL s).bo, .int .i64 (planL s).jr, .int .i64 (planL s).jl, .int .i64 (planL s).le, .int .i64 (planL s).ll, .int .i64 (planL s).bi, .int .i64 (planL s).bl, .int .i64 (planL s).ta, .int .i64 (planL s).tl, .int .i64 (planL s).dt, .int .i64 (planL s).dl, .int .i64 (planL s).to, .int .i64 (planL s).sh.cl, .int .i64 (planL s).sh.wi, .int .i64 (planL s).sh.pl, .int .i64 (planL s).sh.ca, .int .i64 (planL s).sh.ino, .int .i64 (planL s).sh.qu, .int .i64 (planL s).sh.da, .int .i64 (planL s).sh.jo] 40)).alloc (.cells #[.int .u8 65, .int .u8 78, .int .u8 88, .int .u8 83] 5)) (some ⟨(w2.alloc (.cells #[.int .i64 (planL s).bo, .int .i64 (planL s).jr, .int .i64 (planL s).jl, .int .i64 (planL s).le, .int .i64 (planL s).ll, .int .i64 (planL s).bi, .int .i64 (planL s).bl, .int .i64 (planL s).ta, .int .i64 (planL s).tl, .int .i64 (planL s).dt, .int .i64 (planL s).dl, .int .i64 (planL s).to, .int .i64 (planL s).sh.cl, .int .i64 (planL s).sh.wi, .int .i64 (planL s).sh.pl, .int .i64 (planL s).sh.ca, .int .i64 (planL s).sh.ino, .int .i64 (planL s).sh.qu, .int .i64 (planL s).sh.da, .int .i64 (planL s).sh.jo] 40)).heap.size, 0, none⟩) 4 4 [65, 78, 88, 83] := lies_mark (w2.alloc (.cells #[.int .i64 (planL s).bo, .int .i64 (planL s).jr, .int .i64 (planL s).jl, .int .i64 (planL s).le, .int .i64 (planL s).ll, .int .i64 (planL s).bi, .int .i64 (planL s).bl, .int .i64 (planL s).ta, .int .i64 (planL s).tl, .int .i64 (planL s).dt, .int .i64 (planL s).dl, .int .i64 (planL s).to, .int .i64 (planL s).sh.cl, .int .i64 (planL s).sh.wi, .int .i64 (planL s).sh.pl, .int .i64 (planL s).sh.ca, .int .i64 (planL s).sh.ino, .int .i64 (planL s).sh.qu, .int .i64 (planL s).sh.da, .int .i64 (planL s).sh.jo] 40)) [65, 78, 88, 83] 4 rfl _ rfl (0, 0) _ rfl
  have hq_4 := hq_3.trans (hn.mono hq_3.size)
  have hS_4 := hS_3.later hn (by first | exact lt_hS_3 | omega)
  have lt_hS_4 := Nat.lt_of_lt_of_le lt_hS_3 hn.size
  clear hq_3 hS_3 lt_hS_3 hn
  rw [show (w2.alloc (.cells #[.int .i64 (planL s).bo, .int .i64 (planL s).jr, .int .i64 (planL s).jl, .int .i64 (planL s).le, .int .i64 (planL s).ll, .int .i64 (planL s).bi, .int .i64 (planL s).bl, .int .i64 (planL s).ta, .int .i64 (planL s).tl, .int .i64 (planL s).dt, .int .i64 (planL s).dl, .int .i64 (planL s).to, .int .i64 (planL s).sh.cl, .int .i64 (planL s).sh.wi, .int .i64 (planL s).sh.pl, .int .i64 (planL s).sh.ca, .int .i64 (planL s).sh.ino, .int .i64 (planL s).sh.qu, .int .i64 (planL s).sh.da, .int .i64 (planL s).sh.jo] 40)).heap.size = w2.heap.size + 1 by simp] at hL0
  obtain ⟨a0, a1, a2, a3, a4, a5, a6, a7⟩ := hS_4
  go_wp2_with fail
  have hS_4 := ShBox.mk a0 a1 a2 a3 a4 a5 a6 a7
  clear a0 a1 a2 a3 a4 a5 a6 a7
  generalize ((w2.alloc (.cells #[.int .i64 (planL s).bo, .int .i64 (planL s).jr, .int .i64 (planL s).jl, .int .i64 (planL s).le, .int .i64 (planL s).ll, .int .i64 (planL s).bi, .int .i64 (planL s).bl, .int .i64 (planL s).ta, .int .i64 (planL s).tl, .int .i64 (planL s).dt, .int .i64 (planL s).dl, .int .i64 (planL s).to, .int .i64 (planL s).sh.cl, .int .i64 (planL s).sh.wi, .int .i64 (planL s).sh.pl, .int .i64 (planL s).sh.ca, .int .i64 (planL s).sh.ino, .int .i64 (planL s).sh.qu, .int .i64 (planL s).sh.da, .int .i64 (planL s).sh.jo] 40)).alloc (.cells #[.int .u8 65, .int .u8 78, .int .u8 88, .int .u8 83] 5)) = w4 at *
  clear hx
  refine (rnumbers_any s _).mono ?_
  rintro e w5 ⟨gn, rfl, hgn, hN, hb⟩
  have hq_5 := hq_4.trans (hb.mono hq_4.size)
  have hS_5 := hS_4.later hb (by first | exact lt_hS_4 | omega)
  have hL_5 := hL0.below hb (Nat.le_refl _)
  have lt_hS_5 := Nat.lt_of_lt_of_le lt_hS_4 hb.size
  clear hq_4 hS_4 lt_hS_4 hL0 hb
  clear hS_5 lt_hS_5 hgn
  go_wp2_with fail
  go_loopw [6, 8] (fun b v wr => ∃ (k : Nat) (ao : Option Addr) (c : Nat), k ≤ 8 ∧ v = .int .i64 k ∧ b = .slice ao (4 + 4 * k) c ∧ Lies wr ao (4 + 4 * k) c ([65, 78, 88, 83] ++ digs (s.nums.take k)) ∧ wr.heap[gn]? = some (.cells #[.int .i64 s.cl, .int .i64 s.wi, .int .i64 s.pl, .int .i64 s.ca, .int .i64 s.ino, .int .i64 s.qu, .int .i64 s.da, .int .i64 s.jo] 3 (0, 0)) ∧ Below w.heap.size w wr) (fun _ v _ => 8 - (intOf v).toNat)
  case atStart => exact ⟨0, _, _, by omega, rfl, rfl, hL_5, hN, hq_5⟩
  case round =>
    clear hL_5 hN hq_5
    obtain ⟨k, ao, c, hk, rfl, rfl, hL, hN, hb⟩ := hrel
    by_cases hlt : k < 8
    · have hx := nums_small hin k hlt
      have hc : wr.cell? ⟨gn, k, none⟩ = some (.int .i64 (s.nums.getD k 0)) := num_cell hN k hlt
      have k8 : (k : Int) < 8 := by omega
      have HT : Hid (s.nums.take (k + 1) = s.nums.take k ++ [s.nums.getD k 0]) := nums_take s k hlt
      generalize s.nums.getD k 0 = x at *
      have hu := u64_same x hx.1 hx.2
      go_wp2_with fail
      refine (rput_any ao (4 + 4 * k) c 4 x _ _ (by omega) (by omega) (by omega) (by omega) hL).mono ?_
      rintro e w9 ⟨bo, d, rfl, ho, hb9⟩
      have hL9 := Lies.owned ho
      rw [List.append_assoc, ← digs_snoc, ← HT.out] at hL9
      have hq9 := hb.trans (hb9.mono hb.size)
      have hN9 := (hb9.block _ (lt_of_block hN)).trans hN
      clear hL hb hN ho hb9 hc hu
      go_wp2_with fail
      go_roundw
      case rel => exact ⟨k + 1, bo, d, by omega, by go_num, rfl, hL9, hN9, hq9⟩
      case measure => simp [intOf]; omega
    · obtain rfl : k = 8 := by omega
      have e8 : s.nums.take 8 = s.nums := rfl
      rw [e8] at hL
      change Lies wr ao 36 c (headB s) at hL
      have hby := headB_by s
      go_wp2_with fail
      refine (S2.rsum_any ao 36 c (headB s) _ (by omega) hL hby).mono ?_
      rintro e w2z ⟨rfl, hw2⟩
      subst w2z
      have hsu : 0 ≤ S2.fwd 14695981039346656037 (headB s) ∧ S2.fwd 14695981039346656037 (headB s) ≤ 18446744073709551615 := sumOf_u (headB s)
      obtain ⟨S, hS⟩ : ∃ S, S2.fwd 14695981039346656037 (headB s) = S := ⟨_, rfl⟩
      rw [hS] at hsu
      simp only [hS]
      have HS : Hid (sumOf (headB s) = S) := hS
      clear hS
      go_wp2_with fail
      refine (rput_any ao 36 c 8 S (headB s) _ hsu.1 hsu.2 (by omega) (by omega) hL).mono ?_
      rintro e w3z ⟨bo, d, rfl, ho, hb3⟩
      have hL3 := Lies.owned ho
      have hq3 := hb.trans (hb3.mono hb.size)
      clear hL hb hN ho hb3
      go_wp2_with fail
      refine (zeros63 468 _ (by omega) (by omega)).mono ?_
      rintro e w4z ⟨g4, c4, rfl, ho4, hb4⟩
      have hL4 := hL3.below hb4 (Nat.le_refl _)
      have hZ4 := Lies.own ho4
      have hq4 := hq3.trans (hb4.mono hq3.size)
      clear hL3 hq3 ho4 hb4
      go_wp2_with fail
      refine (join_any bo (some ⟨g4, 0, none⟩) 44 d 468 c4 (headB s ++ be S 8) (List.replicate 468 0) _ (by omega) (by omega) hL4 hZ4).mono ?_
      rintro e w5z ⟨a5, c5, rfl, ho5, hb5⟩
      have hL5 := Lies.owned ho5
      have hq5 := hq4.trans (hb5.mono hq4.size)
      have HB : Hid (superB s = headB s ++ be S 8 ++ List.replicate 468 0) := by show _ = _; unfold superB; rw [HS.out]
      clear ho5 hb5 hL4 hZ4 hq4
      go_wp2_with fail
      go_ret2
      exact ⟨a5, 512, c5, by rw [HP.out]; rfl, hq5, fun h => absurd HP.out h, fun _ => ⟨rfl, by rw [HB.out]; exact hL5⟩⟩
end Go.Proofs.YtgpeefedboomoabDoor
