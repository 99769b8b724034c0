/- PlanReads, walked. -/
import Derived.Test.YtgpeefedboomoabDoorP15
import Derived.Test.YtgpeefedboomoabDoorP25b
import Derived.Test.YtgpeefedboomoabDoorP29
namespace Go.Proofs.YtgpeefedboomoabDoor
open Go.RowKit
set_option maxRecDepth 100000

attribute [local go_sem ↓ 100000] ly_store ly_load sh_store
attribute [local go_sem] LyStore.new LyLoad.new LyStore.at LyLoad.at ShStore.new ShStore.at ShStore.under
theorem own_setRow {w : World} {base n cap b : Nat} {g : Nat} {xs : List Value} (h : w.ownsRow base 5 1 (.slice (some ⟨g, 0, none⟩) n cap) n xs) (hne : g ≠ b) (cs : Array Value) : (w.setRow b cs).ownsRow base 5 1 (.slice (some ⟨g, 0, none⟩) n cap) n xs := by
  obtain ⟨h1, h2⟩ := h
  refine ⟨h1, ?_⟩
  rcases h2 with ⟨hv, hn⟩ | ⟨g', cp, cur, hv, hg, hr, r⟩
  · cases hv
  · have e : g = g' := by cases hv; rfl
    exact Or.inr ⟨g', cp, cur, hv, hg, (setRow_other w b g' cs (by omega)).trans hr, r⟩
theorem lies_take {w : World} {base n m cap g : Nat} {V : List Int} (h : w.ownsRow base 5 1 (.slice (some ⟨g, 0, none⟩) m cap) m (V.map (Value.int .u8))) (hn : n ≤ m) : Lies w (some ⟨g, 0, none⟩) n cap (V.take n) := by
  have hL := Lies.own h
  have hc := hL.hle
  exact hL.piece 0 n cap (by omega) (by omega)
theorem own_below {w w' : World} {base n cap : Nat} {g : Nat} {xs : List Value} (h : w.ownsRow base 5 1 (.slice (some ⟨g, 0, none⟩) n cap) n xs) (hb : Below w.heap.size w w') : w'.ownsRow base 5 1 (.slice (some ⟨g, 0, none⟩) n cap) n xs := by
  obtain ⟨h1, h2⟩ := h
  refine ⟨h1, ?_⟩
  rcases h2 with ⟨hv, hn⟩ | ⟨g', cp, cur, hv, hg, hr, r⟩
  · cases hv
  · exact Or.inr ⟨g', cp, cur, hv, hg, (hb.block _ (lt_of_block hr)).trans hr, r⟩
theorem own_cap {w : World} {base n cap g : Nat} {xs : List Value} (h : w.ownsRow base 5 1 (.slice (some ⟨g, 0, none⟩) n cap) n xs) : n ≤ cap := by
  rcases h.2 with ⟨hv, _⟩ | ⟨g', cp, cur, hv, _, _, hnc, _⟩
  · cases hv
  · cases hv; exact hnc
theorem lies_front {w : World} {base n m cap g : Nat} {bs cs : List Int} (h : w.ownsRow base 5 1 (.slice (some ⟨g, 0, none⟩) m cap) m ((bs ++ cs).map (Value.int .u8))) (hn : bs.length = n) : Lies w (some ⟨g, 0, none⟩) n cap bs := by
  have hL := Lies.own h
  have hl := hL.hlen
  have hc := hL.hle
  rw [List.length_append] at hl
  have h2 := hL.piece 0 n cap (by omega) (by omega)
  simpa [hn] using h2
theorem by_more {bs : List Int} (h : ∀ x ∈ bs, 0 ≤ x ∧ x ≤ 255) : ∀ x ∈ bs ++ [91, 92, 93], 0 ≤ x ∧ x ≤ 255 := fun x hx => by
  rcases List.mem_append.1 hx with hx | hx
  · exact h x hx
  · simp at hx; omega
theorem map_set_int (V : List Int) (k : Nat) (z : Int) : (V.map (Value.int .u8)).set k (.int .u8 z) = (V.set k z).map (Value.int .u8) := by rw [List.map_set]
theorem Bds.set {w : World} {g a : Nat} {v : Value} (h : Bds w) (hg : g ≠ 0) : Bds (w.setCell ⟨g, a, none⟩ v) :=
  ⟨(World.cell?_of_block (w := w) (a := ⟨0, 0, none⟩) (Below.heap_setCell w ⟨g, a, none⟩ v _ (Ne.symm hg))).trans h.c0, (World.cell?_of_block (w := w) (a := ⟨0, 1, none⟩) (Below.heap_setCell w ⟨g, a, none⟩ v _ (Ne.symm hg))).trans h.c1, (World.cell?_of_block (w := w) (a := ⟨0, 2, none⟩) (Below.heap_setCell w ⟨g, a, none⟩ v _ (Ne.symm hg))).trans h.c2, (World.cell?_of_block (w := w) (a := ⟨0, 3, none⟩) (Below.heap_setCell w ⟨g, a, none⟩ v _ (Ne.symm hg))).trans h.c3, (World.cell?_of_block (w := w) (a := ⟨0, 4, none⟩) (Below.heap_setCell w ⟨g, a, none⟩ v _ (Ne.symm hg))).trans h.c4, (World.cell?_of_block (w := w) (a := ⟨0, 5, none⟩) (Below.heap_setCell w ⟨g, a, none⟩ v _ (Ne.symm hg))).trans h.c5, (World.cell?_of_block (w := w) (a := ⟨0, 6, none⟩) (Below.heap_setCell w ⟨g, a, none⟩ v _ (Ne.symm hg))).trans h.c6, (World.cell?_of_block (w := w) (a := ⟨0, 7, none⟩) (Below.heap_setCell w ⟨g, a, none⟩ v _ (Ne.symm hg))).trans h.c7, (World.cell?_of_block (w := w) (a := ⟨0, 8, none⟩) (Below.heap_setCell w ⟨g, a, none⟩ v _ (Ne.symm hg))).trans h.c8, (World.cell?_of_block (w := w) (a := ⟨0, 9, none⟩) (Below.heap_setCell w ⟨g, a, none⟩ v _ (Ne.symm hg))).trans h.c9, (World.cell?_of_block (w := w) (a := ⟨0, 10, none⟩) (Below.heap_setCell w ⟨g, a, none⟩ v _ (Ne.symm hg))).trans h.c10, (World.cell?_of_block (w := w) (a := ⟨0, 11, none⟩) (Below.heap_setCell w ⟨g, a, none⟩ v _ (Ne.symm hg))).trans h.c11, (World.cell?_of_block (w := w) (a := ⟨0, 12, none⟩) (Below.heap_setCell w ⟨g, a, none⟩ v _ (Ne.symm hg))).trans h.c12, (World.cell?_of_block (w := w) (a := ⟨0, 13, none⟩) (Below.heap_setCell w ⟨g, a, none⟩ v _ (Ne.symm hg))).trans h.c13, (World.cell?_of_block (w := w) (a := ⟨0, 14, none⟩) (Below.heap_setCell w ⟨g, a, none⟩ v _ (Ne.symm hg))).trans h.c14, (World.cell?_of_block (w := w) (a := ⟨0, 15, none⟩) (Below.heap_setCell w ⟨g, a, none⟩ v _ (Ne.symm hg))).trans h.c15⟩

set_option maxHeartbeats 8000000 in
theorem reads_any (ao : Option Addr) (n cap : Nat) (bs : List Int) (w : World) (hB : Bds w) (hn : n ≤ 140737488351232) (hL : Lies w ao n cap bs) (hby : ∀ x ∈ bs, 0 ≤ x ∧ x ≤ 255) : Calls Tryd.prog 6 #[.slice ao n cap] w fun e w' => e = .returned (.bool true) ∧ Below w.heap.size w w' := by
  have hq := Below.refl w.heap.size w
  have hpos := hB.lt
  have hlen := hL.hlen
  have hnc := hL.hle
  go_enter Tryd.func6, Tryd.ntmps6
  go_wp2_with fail
  refine (first_any _ hB).mono ?_
  rintro e w1 ⟨rfl, hb⟩
  have hB_1 := hB.later hb (Nat.le_refl _)
  have hq_1 := hq.trans (hb.mono hq.size)
  have hL_1 := hL.below hb (Nat.le_refl _)
  clear hB hq hL hb
  go_wp2_with fail
  have hs1 := hq_1.size
  refine (roomy_any ao n cap bs _ hn hL_1).mono ?_
  rintro e w2 ⟨g, cw, rfl, ho, hb⟩
  have hB_2 := hB_1.later hb (Nat.le_refl _)
  have hq_2 := hq_1.trans (hb.mono hq_1.size)
  have hL_2 := hL_1.below hb (Nat.le_refl _)
  clear hB_1 hq_1 hL_1 hb
  have hg := (ho.lt g rfl)
  obtain ⟨hg0, hg1⟩ := hg
  have hcw := own_cap ho
  have ci : (n : Int) ≤ cw := by omega
  have cne : ¬ cw = 0 := by omega
  go_wp2_with fail
  refine (readSuper_any (some ⟨g, 0, none⟩) n cw bs _ hB_2 (lies_front ho (by omega)) hby).mono ?_
  rintro e w3 ⟨rfl, hb⟩
  have ho_3 := own_below ho hb
  clear ho
  have hB_3 := hB_2.later hb (Nat.le_refl _)
  have hq_3 := hq_2.trans (hb.mono hq_2.size)
  have hL_3 := hL_2.below hb (Nat.le_refl _)
  clear hB_2 hq_2 hL_2 hb
  have hg5 : g < w3.heap.size := (ho_3.lt g rfl).2
  have hn := newBox w3 (.cells #[.int .i64 (rsA bs).1.cl, .int .i64 (rsA bs).1.wi, .int .i64 (rsA bs).1.pl, .int .i64 (rsA bs).1.ca, .int .i64 (rsA bs).1.ino, .int .i64 (rsA bs).1.qu, .int .i64 (rsA bs).1.da, .int .i64 (rsA bs).1.jo] 33)
  have h5_4 : (w3.alloc (.cells #[.int .i64 (rsA bs).1.cl, .int .i64 (rsA bs).1.wi, .int .i64 (rsA bs).1.pl, .int .i64 (rsA bs).1.ca, .int .i64 (rsA bs).1.ino, .int .i64 (rsA bs).1.qu, .int .i64 (rsA bs).1.da, .int .i64 (rsA bs).1.jo] 33)).heap[w3.heap.size]? = some (.cells #[.int .i64 (rsA bs).1.cl, .int .i64 (rsA bs).1.wi, .int .i64 (rsA bs).1.pl, .int .i64 (rsA bs).1.ca, .int .i64 (rsA bs).1.ino, .int .i64 (rsA bs).1.qu, .int .i64 (rsA bs).1.da, .int .i64 (rsA bs).1.jo] 33 (0, 0)) := heap_alloc_last w3 _
  have ho_4 := own_below ho_3 hn
  clear ho_3
  have hB_4 := hB_3.later hn (Nat.le_refl _)
  have hq_4 := hq_3.trans (hn.mono hq_3.size)
  have hL_4 := hL_3.below hn (Nat.le_refl _)
  clear hB_3 hq_3 hL_3 hn
  go_wp2_with fail
  generalize (w3.alloc (.cells #[.int .i64 (rsA bs).1.cl, .int .i64 (rsA bs).1.wi, .int .i64 (rsA bs).1.pl, .int .i64 (rsA bs).1.ca, .int .i64 (rsA bs).1.ino, .int .i64 (rsA bs).1.qu, .int .i64 (rsA bs).1.da, .int .i64 (rsA bs).1.jo] 33)) = w4 at *
  refine (rread_any ao n cap bs _ hL_4 hby).mono ?_
  rintro e w5 ⟨rfl, hb⟩
  have ho_5 := own_below ho_4 hb
  clear ho_4
  have hB_5 := hB_4.later hb (Nat.le_refl _)
  have hq_5 := hq_4.trans (hb.mono hq_4.size)
  have hL_5 := hL_4.below hb (Nat.le_refl _)
  have h5_5 := (hb.block _ (lt_of_block h5_4)).trans h5_4
  clear hB_4 hq_4 hL_4 h5_4 hb
  have hg7 : g < w5.heap.size := (ho_5.lt g rfl).2
  have h57 : w3.heap.size < w5.heap.size := lt_of_block h5_5
  have hn := newBox w5 (.cells #[.int .i64 (rsA bs).1.cl, .int .i64 (rsA bs).1.wi, .int .i64 (rsA bs).1.pl, .int .i64 (rsA bs).1.ca, .int .i64 (rsA bs).1.ino, .int .i64 (rsA bs).1.qu, .int .i64 (rsA bs).1.da, .int .i64 (rsA bs).1.jo] 33)
  have h7_6 : (w5.alloc (.cells #[.int .i64 (rsA bs).1.cl, .int .i64 (rsA bs).1.wi, .int .i64 (rsA bs).1.pl, .int .i64 (rsA bs).1.ca, .int .i64 (rsA bs).1.ino, .int .i64 (rsA bs).1.qu, .int .i64 (rsA bs).1.da, .int .i64 (rsA bs).1.jo] 33)).heap[w5.heap.size]? = some (.cells #[.int .i64 (rsA bs).1.cl, .int .i64 (rsA bs).1.wi, .int .i64 (rsA bs).1.pl, .int .i64 (rsA bs).1.ca, .int .i64 (rsA bs).1.ino, .int .i64 (rsA bs).1.qu, .int .i64 (rsA bs).1.da, .int .i64 (rsA bs).1.jo] 33 (0, 0)) := heap_alloc_last w5 _
  have ho_6 := own_below ho_5 hn
  clear ho_5
  have hB_6 := hB_5.later hn (Nat.le_refl _)
  have hq_6 := hq_5.trans (hn.mono hq_5.size)
  have hL_6 := hL_5.below hn (Nat.le_refl _)
  have h5_6 := (hn.block _ (lt_of_block h5_5)).trans h5_5
  clear hB_5 hq_5 hL_5 h5_5 hn
  obtain ⟨a0, a1, a2, a3, a4, a5, a6, a7⟩ := sh_of_row h5_6
  go_wp2_with fail
  clear a0 a1 a2 a3 a4 a5 a6 a7
  generalize (w5.alloc (.cells #[.int .i64 (rsA bs).1.cl, .int .i64 (rsA bs).1.wi, .int .i64 (rsA bs).1.pl, .int .i64 (rsA bs).1.ca, .int .i64 (rsA bs).1.ino, .int .i64 (rsA bs).1.qu, .int .i64 (rsA bs).1.da, .int .i64 (rsA bs).1.jo] 33)) = w6 at *
  refine (sameShape_any (rsA bs).1 (rsA bs).1 _).mono ?_
  rintro e w7 ⟨rfl, hb⟩
  have ho_7 := own_below ho_6 hb
  clear ho_6
  have hB_7 := hB_6.later hb (Nat.le_refl _)
  have hq_7 := hq_6.trans (hb.mono hq_6.size)
  have hL_7 := hL_6.below hb (Nat.le_refl _)
  have h5_7 := (hb.block _ (lt_of_block h5_6)).trans h5_6
  have h7_7 := (hb.block _ (lt_of_block h7_6)).trans h7_6
  clear hB_6 hq_6 hL_6 h5_6 h7_6 hb
  rw [decide_eq_true (rfl : (rsA bs).1 = (rsA bs).1)]
  go_wp2_with fail
  refine (roomy_any ao n cap bs _ hn hL_7).mono ?_
  rintro e w8 ⟨g2, c2, rfl, ho2, hb⟩
  have ho_8 := own_below ho_7 hb
  clear ho_7
  have hB_8 := hB_7.later hb (Nat.le_refl _)
  have hq_8 := hq_7.trans (hb.mono hq_7.size)
  have hL_8 := hL_7.below hb (Nat.le_refl _)
  have h5_8 := (hb.block _ (lt_of_block h5_7)).trans h5_7
  have h7_8 := (hb.block _ (lt_of_block h7_7)).trans h7_7
  clear hB_7 hq_7 hL_7 h5_7 h7_7 hb
  go_wp2_with fail
  refine (same_any (some ⟨g, 0, none⟩) (some ⟨g2, 0, none⟩) (n + 3) (n + 3) cw c2 (bs ++ [91, 92, 93]) (bs ++ [91, 92, 93]) _ (by omega) (Lies.own ho_8) (Lies.own ho2)).mono ?_
  rintro e w9 ⟨rfl, k, hk⟩
  have hb : Below w8.heap.size w8 w9 := by rw [hk]; exact below_drewN (Below.refl _ _) k
  clear hk ho2
  have ho_9 := own_below ho_8 hb
  clear ho_8
  have hB_9 := hB_8.later hb (Nat.le_refl _)
  have hq_9 := hq_8.trans (hb.mono hq_8.size)
  have hL_9 := hL_8.below hb (Nat.le_refl _)
  have h5_9 := (hb.block _ (lt_of_block h5_8)).trans h5_8
  have h7_9 := (hb.block _ (lt_of_block h7_8)).trans h7_8
  clear hB_8 hq_8 hL_8 h5_8 h7_8 hb
  rw [decide_eq_true rfl]
  go_wp2_with (go_at_call 13; refine (num_id _ _).mono ?_; rintro e wn ⟨rfl, hwn⟩; subst wn)
  refine (small_any _).mono ?_
  rintro e w10 ⟨rfl, hb⟩
  have ho_10 := own_below ho_9 hb
  clear ho_9
  have hB_10 := hB_9.later hb (Nat.le_refl _)
  have hq_10 := hq_9.trans (hb.mono hq_9.size)
  have hL_10 := hL_9.below hb (Nat.le_refl _)
  have h5_10 := (hb.block _ (lt_of_block h5_9)).trans h5_9
  have h7_10 := (hb.block _ (lt_of_block h7_9)).trans h7_9
  clear hB_9 hq_9 hL_9 h5_9 h7_9 hb
  have hn2 := box2 w10 (.cells #[.int .i64 smS.cl, .int .i64 smS.wi, .int .i64 smS.pl, .int .i64 smS.ca, .int .i64 smS.ino, .int .i64 smS.qu, .int .i64 smS.da, .int .i64 smS.jo] 33) (.cells #[.int .i64 smL.bo, .int .i64 smL.jr, .int .i64 smL.jl, .int .i64 smL.le, .int .i64 smL.ll, .int .i64 smL.bi, .int .i64 smL.bl, .int .i64 smL.ta, .int .i64 smL.tl, .int .i64 smL.dt, .int .i64 smL.dl, .int .i64 smL.to, .int .i64 smL.sh.cl, .int .i64 smL.sh.wi, .int .i64 smL.sh.pl, .int .i64 smL.sh.ca, .int .i64 smL.sh.ino, .int .i64 smL.sh.qu, .int .i64 smL.sh.da, .int .i64 smL.sh.jo] 40)
  have hSm : ShBox ((w10.alloc (.cells #[.int .i64 smS.cl, .int .i64 smS.wi, .int .i64 smS.pl, .int .i64 smS.ca, .int .i64 smS.ino, .int .i64 smS.qu, .int .i64 smS.da, .int .i64 smS.jo] 33)).alloc (.cells #[.int .i64 smL.bo, .int .i64 smL.jr, .int .i64 smL.jl, .int .i64 smL.le, .int .i64 smL.ll, .int .i64 smL.bi, .int .i64 smL.bl, .int .i64 smL.ta, .int .i64 smL.tl, .int .i64 smL.dt, .int .i64 smL.dl, .int .i64 smL.to, .int .i64 smL.sh.cl, .int .i64 smL.sh.wi, .int .i64 smL.sh.pl, .int .i64 smL.sh.ca, .int .i64 smL.sh.ino, .int .i64 smL.sh.qu, .int .i64 smL.sh.da, .int .i64 smL.sh.jo] 40)) w10.heap.size smS := (ShBox.new w10 smS).later (newBox _ _) (by simp)
  have ho_11 := own_below ho_10 hn2
  clear ho_10
  have hB_11 := hB_10.later hn2 (Nat.le_refl _)
  have hq_11 := hq_10.trans (hn2.mono hq_10.size)
  have hL_11 := hL_10.below hn2 (Nat.le_refl _)
  have h5_11 := (hn2.block _ (lt_of_block h5_10)).trans h5_10
  have h7_11 := (hn2.block _ (lt_of_block h7_10)).trans h7_10
  clear hB_10 hq_10 hL_10 h5_10 h7_10 hn2
  obtain ⟨a0, a1, a2, a3, a4, a5, a6, a7⟩ := hSm
  go_wp2_with fail
  clear a0 a1 a2 a3 a4 a5 a6 a7
  generalize ((w10.alloc (.cells #[.int .i64 smS.cl, .int .i64 smS.wi, .int .i64 smS.pl, .int .i64 smS.ca, .int .i64 smS.ino, .int .i64 smS.qu, .int .i64 smS.da, .int .i64 smS.jo] 33)).alloc (.cells #[.int .i64 smL.bo, .int .i64 smL.jr, .int .i64 smL.jl, .int .i64 smL.le, .int .i64 smL.ll, .int .i64 smL.bi, .int .i64 smL.bl, .int .i64 smL.ta, .int .i64 smL.tl, .int .i64 smL.dt, .int .i64 smL.dl, .int .i64 smL.to, .int .i64 smL.sh.cl, .int .i64 smL.sh.wi, .int .i64 smL.sh.pl, .int .i64 smL.sh.ca, .int .i64 smL.sh.ino, .int .i64 smL.sh.qu, .int .i64 smL.sh.da, .int .i64 smL.sh.jo] 40)) = w11 at *
  have hgs : g < w11.heap.size := (ho_11.lt g rfl).2
  refine (rsuper_own smS _).mono ?_
  rintro e w12 ⟨co, m, d, rfl, hb, _, hok⟩
  have ho_12 := own_below ho_11 hb
  clear ho_11
  have hB_12 := hB_11.later hb (Nat.le_refl _)
  have hq_12 := hq_11.trans (hb.mono hq_11.size)
  have hL_12 := hL_11.below hb (Nat.le_refl _)
  have h5_12 := (hb.block _ (lt_of_block h5_11)).trans h5_11
  have h7_12 := (hb.block _ (lt_of_block h7_11)).trans h7_11
  clear hB_11 hq_11 hL_11 h5_11 h7_11 hb
  obtain ⟨rfl, hC, hCo⟩ := hok smE
  clear hok
  have hCg : ∀ ad, co = some ad → some ad.block ≠ some g := fun ad had h => by have := hCo ad had; cases h; omega
  go_wp2_with fail
  have hni : (n : Int) ≤ 140737488351232 := by omega
  have cni : (n : Int) + 3 ≤ cw := by omega
  have hn5 : g ≠ w3.heap.size := by omega
  have hn7 : g ≠ w5.heap.size := by omega
  go_loopw [15] (fun v wr => ∃ k : Nat, k ≤ n ∧ v = .int .i64 k ∧ ∃ V : List Int, V.length = n + 3 ∧ (∀ x ∈ V, 0 ≤ x ∧ x ≤ 255) ∧ wr.ownsRow w1.heap.size 5 1 (.slice (some ⟨g, 0, none⟩) (n + 3) cw) (n + 3) (V.map (Value.int .u8)) ∧ Lies wr co 512 d (superB smS) ∧ wr.heap[w3.heap.size]? = some (.cells #[.int .i64 (rsA bs).1.cl, .int .i64 (rsA bs).1.wi, .int .i64 (rsA bs).1.pl, .int .i64 (rsA bs).1.ca, .int .i64 (rsA bs).1.ino, .int .i64 (rsA bs).1.qu, .int .i64 (rsA bs).1.da, .int .i64 (rsA bs).1.jo] 33 (0, 0)) ∧ wr.heap[w5.heap.size]? = some (.cells #[.int .i64 (rsA bs).1.cl, .int .i64 (rsA bs).1.wi, .int .i64 (rsA bs).1.pl, .int .i64 (rsA bs).1.ca, .int .i64 (rsA bs).1.ino, .int .i64 (rsA bs).1.qu, .int .i64 (rsA bs).1.da, .int .i64 (rsA bs).1.jo] 33 (0, 0)) ∧ Bds wr ∧ Below w.heap.size w wr) (fun v _ => n - (intOf v).toNat)
  case atStart => exact ⟨0, Nat.zero_le _, rfl, bs ++ [91, 92, 93], by simp [hlen], by_more hby, ho_12, hC, h5_12, h7_12, hB_12, hq_12⟩
  case round =>
    clear ho_12 hC h5_12 h7_12 hB_12 hq_12 hL_12
    obtain ⟨k, hk, rfl, V, hVl, hVb, ho, hC, h5, h7, hB, hq⟩ := hrel
    by_cases hlt : k < n
    · have ha := ho.cellAt k (by omega)
      have haf := ho.frozenAt k
      obtain ⟨u, hu⟩ : ∃ u, (V.map (Value.int .u8))[k]? = some u := ⟨.int .u8 V[k], by simp [show k < V.length by omega]⟩
      rw [hu] at ha
      have kn : (k : Int) < n := by omega
      have kn3 : (k : Int) < (n : Int) + 3 := by omega
      have st1 := ho.stored k (.int .u8 ((k : Int) % 256))
      have wb : 0 ≤ (k : Int) % 256 ∧ (k : Int) % 256 ≤ 255 := by omega
      rw [map_set_int] at st1
      have hg2 := grown_setCell wr g k (.int .u8 ((k : Int) % 256))
      have a1 : (wr.setCell ⟨g, k, none⟩ (.int .u8 ((k : Int) % 256))).ownsRow w1.heap.size 5 1 (.slice (some ⟨g, 0, none⟩) (n + 3) cw) (n + 3) ((V.set k ((k : Int) % 256)).map (Value.int .u8)) := st1.1
      have a2 := hC.grown hg2 hCg
      have a3 : (wr.setCell ⟨g, k, none⟩ (.int .u8 ((k : Int) % 256))).heap[w3.heap.size]? = some (.cells #[.int .i64 (rsA bs).1.cl, .int .i64 (rsA bs).1.wi, .int .i64 (rsA bs).1.pl, .int .i64 (rsA bs).1.ca, .int .i64 (rsA bs).1.ino, .int .i64 (rsA bs).1.qu, .int .i64 (rsA bs).1.da, .int .i64 (rsA bs).1.jo] 33 (0, 0)) := (hg2.block _ (lt_of_block h5) (by simp; omega)).trans h5
      have a4 : (wr.setCell ⟨g, k, none⟩ (.int .u8 ((k : Int) % 256))).heap[w5.heap.size]? = some (.cells #[.int .i64 (rsA bs).1.cl, .int .i64 (rsA bs).1.wi, .int .i64 (rsA bs).1.pl, .int .i64 (rsA bs).1.ca, .int .i64 (rsA bs).1.ino, .int .i64 (rsA bs).1.qu, .int .i64 (rsA bs).1.da, .int .i64 (rsA bs).1.jo] 33 (0, 0)) := (hg2.block _ (lt_of_block h7) (by simp; omega)).trans h7
      have a5 := Bds.set (a := k) (v := .int .u8 ((k : Int) % 256)) hB (by omega : g ≠ 0)
      have a6 := hq.setCell (p := ⟨g, k, none⟩) (by show w.heap.size ≤ g; omega) (.int .u8 ((k : Int) % 256))
      have a7 := set_bys (a := k) hVb wb
      have hVl2 : (V.set k ((k : Int) % 256)).length = n + 3 := by rw [List.length_set]; exact hVl
      clear ho hC h5 h7 hB hq st1 hg2 hVb hVl hu
      by_cases hc : k < 512
      · obtain ⟨cb, c0, rfl, hcc⟩ := a2.at (by omega)
        have gc := hcc k hc
        clear hcc
        have kc : (k : Int) < 512 := by omega
        have hyb := getD_by (superB_by smS) (by rw [superB_length]; exact hc : k < (superB smS).length)
        generalize (superB smS).getD k 0 = y at *
        have ha2 := a1.cellAt k (by omega)
        have haf2 := a1.frozenAt k
        obtain ⟨u2, hu2⟩ : ∃ u, ((V.set k ((k : Int) % 256)).map (Value.int .u8))[k]? = some u := ⟨.int .u8 (V.set k ((k : Int) % 256))[k], by simp [show k < V.length by rw [List.length_set] at hVl2; omega]⟩
        rw [hu2] at ha2
        have st2 := a1.stored k (.int .u8 y)
        rw [map_set_int] at st2
        have hg3 := grown_setCell (wr.setCell ⟨g, k, none⟩ (.int .u8 ((k : Int) % 256))) g k (.int .u8 y)
        have e1 := st2.1
        have e2 := a2.grown hg3 hCg
        have e3 : ((wr.setCell ⟨g, k, none⟩ (.int .u8 ((k : Int) % 256))).setCell ⟨g, k, none⟩ (.int .u8 y)).heap[w3.heap.size]? = some (.cells #[.int .i64 (rsA bs).1.cl, .int .i64 (rsA bs).1.wi, .int .i64 (rsA bs).1.pl, .int .i64 (rsA bs).1.ca, .int .i64 (rsA bs).1.ino, .int .i64 (rsA bs).1.qu, .int .i64 (rsA bs).1.da, .int .i64 (rsA bs).1.jo] 33 (0, 0)) := (hg3.block _ (lt_of_block a3) (by simp; omega)).trans a3
        have e4 : ((wr.setCell ⟨g, k, none⟩ (.int .u8 ((k : Int) % 256))).setCell ⟨g, k, none⟩ (.int .u8 y)).heap[w5.heap.size]? = some (.cells #[.int .i64 (rsA bs).1.cl, .int .i64 (rsA bs).1.wi, .int .i64 (rsA bs).1.pl, .int .i64 (rsA bs).1.ca, .int .i64 (rsA bs).1.ino, .int .i64 (rsA bs).1.qu, .int .i64 (rsA bs).1.da, .int .i64 (rsA bs).1.jo] 33 (0, 0)) := (hg3.block _ (lt_of_block a4) (by simp; omega)).trans a4
        have e5 := Bds.set (a := k) (v := .int .u8 y) a5 (by omega : g ≠ 0)
        have e6 := a6.setCell (p := ⟨g, k, none⟩) (by show w.heap.size ≤ g; omega) (.int .u8 y)
        have e7 := set_bys (a := k) a7 hyb
        have hVl3 : ((V.set k ((k : Int) % 256)).set k y).length = n + 3 := by rw [List.length_set]; exact hVl2
        clear a1 a2 a3 a4 a5 a6 a7 st2 hg3 hu2 hVl2
        go_wp2_with fail
        go_roundw
        case rel => exact ⟨k + 1, by omega, by go_num, _, hVl3, e7, e1, e2, e3, e4, e5, e6⟩
        case measure => simp [intOf]; omega
      · have kc : ¬ (k : Int) < 512 := by omega
        go_wp2_with fail
        go_roundw
        case rel => exact ⟨k + 1, by omega, by go_num, _, hVl2, a7, a1, a2, a3, a4, a5, a6⟩
        case measure => simp [intOf]; omega
    · obtain rfl : k = n := by omega
      have hLw := lies_take ho (by omega : k ≤ k + 3)
      have hVt : ∀ x ∈ V.take k, 0 ≤ x ∧ x ≤ 255 := fun x hx => hVb x (List.mem_of_mem_take hx)
      clear hC
      go_wp2_with fail
      refine (readSuper_any (some ⟨g, 0, none⟩) k cw (V.take k) _ hB hLw hVt).mono ?_
      rintro e x1 ⟨rfl, hb⟩
      have ho1 := own_below ho hb
      have h51 := (hb.block _ (lt_of_block h5)).trans h5
      have h71 := (hb.block _ (lt_of_block h7)).trans h7
      have hq1 := hq.trans (hb.mono hq.size)
      clear ho h5 h7 hB hq hb hLw
      have hst := ShStore.row h51 rfl
      have ho2 : (x1.setRow w3.heap.size #[.int .i64 (rsA (V.take k)).1.cl, .int .i64 (rsA (V.take k)).1.wi, .int .i64 (rsA (V.take k)).1.pl, .int .i64 (rsA (V.take k)).1.ca, .int .i64 (rsA (V.take k)).1.ino, .int .i64 (rsA (V.take k)).1.qu, .int .i64 (rsA (V.take k)).1.da, .int .i64 (rsA (V.take k)).1.jo]).ownsRow w1.heap.size 5 1 (.slice (some ⟨g, 0, none⟩) (k + 3) cw) (k + 3) (V.map (Value.int .u8)) := own_setRow ho1 hn5 _
      have h52 : (x1.setRow w3.heap.size #[.int .i64 (rsA (V.take k)).1.cl, .int .i64 (rsA (V.take k)).1.wi, .int .i64 (rsA (V.take k)).1.pl, .int .i64 (rsA (V.take k)).1.ca, .int .i64 (rsA (V.take k)).1.ino, .int .i64 (rsA (V.take k)).1.qu, .int .i64 (rsA (V.take k)).1.da, .int .i64 (rsA (V.take k)).1.jo]).heap[w3.heap.size]? = some (.cells #[.int .i64 (rsA (V.take k)).1.cl, .int .i64 (rsA (V.take k)).1.wi, .int .i64 (rsA (V.take k)).1.pl, .int .i64 (rsA (V.take k)).1.ca, .int .i64 (rsA (V.take k)).1.ino, .int .i64 (rsA (V.take k)).1.qu, .int .i64 (rsA (V.take k)).1.da, .int .i64 (rsA (V.take k)).1.jo] 33 (0, 0)) := setRow_heap _ _ _ _ _ _ h51
      have h72 : (x1.setRow w3.heap.size #[.int .i64 (rsA (V.take k)).1.cl, .int .i64 (rsA (V.take k)).1.wi, .int .i64 (rsA (V.take k)).1.pl, .int .i64 (rsA (V.take k)).1.ca, .int .i64 (rsA (V.take k)).1.ino, .int .i64 (rsA (V.take k)).1.qu, .int .i64 (rsA (V.take k)).1.da, .int .i64 (rsA (V.take k)).1.jo]).heap[w5.heap.size]? = some (.cells #[.int .i64 (rsA bs).1.cl, .int .i64 (rsA bs).1.wi, .int .i64 (rsA bs).1.pl, .int .i64 (rsA bs).1.ca, .int .i64 (rsA bs).1.ino, .int .i64 (rsA bs).1.qu, .int .i64 (rsA bs).1.da, .int .i64 (rsA bs).1.jo] 33 (0, 0)) := (setRow_other _ _ _ _ (by omega)).trans h71
      have hq2 : Below w.heap.size w (x1.setRow w3.heap.size #[.int .i64 (rsA (V.take k)).1.cl, .int .i64 (rsA (V.take k)).1.wi, .int .i64 (rsA (V.take k)).1.pl, .int .i64 (rsA (V.take k)).1.ca, .int .i64 (rsA (V.take k)).1.ino, .int .i64 (rsA (V.take k)).1.qu, .int .i64 (rsA (V.take k)).1.da, .int .i64 (rsA (V.take k)).1.jo]) := below_setRow hq1 (by omega) _
      clear ho1 h51 h71 hq1
      go_wp2_with fail
      clear hst
      generalize x1.setRow w3.heap.size #[.int .i64 (rsA (V.take k)).1.cl, .int .i64 (rsA (V.take k)).1.wi, .int .i64 (rsA (V.take k)).1.pl, .int .i64 (rsA (V.take k)).1.ca, .int .i64 (rsA (V.take k)).1.ino, .int .i64 (rsA (V.take k)).1.qu, .int .i64 (rsA (V.take k)).1.da, .int .i64 (rsA (V.take k)).1.jo] = x2 at *
      refine (bytes29_any (some ⟨g, 0, none⟩) k cw (V.take k) _ (by omega) (lies_take ho2 (by omega))).mono ?_
      rintro e x3 ⟨bo, bc, rfl, hob, hb⟩
      have h53 := (hb.block _ (lt_of_block h52)).trans h52
      have h73 := (hb.block _ (lt_of_block h72)).trans h72
      have hq3 := hq2.trans (hb.mono hq2.size)
      clear ho2 h52 h72 hq2 hb
      go_wp2_with fail
      refine (rread_any bo k bc (V.take k) _ (Lies.owned hob) hVt).mono ?_
      rintro e x4 ⟨rfl, hb⟩
      have h54 := (hb.block _ (lt_of_block h53)).trans h53
      have h74 := (hb.block _ (lt_of_block h73)).trans h73
      have hq4 := hq3.trans (hb.mono hq3.size)
      clear h53 h73 hq3 hb hob
      have hst := ShStore.row h74 rfl
      have h55 : (x4.setRow w5.heap.size #[.int .i64 (rsA (V.take k)).1.cl, .int .i64 (rsA (V.take k)).1.wi, .int .i64 (rsA (V.take k)).1.pl, .int .i64 (rsA (V.take k)).1.ca, .int .i64 (rsA (V.take k)).1.ino, .int .i64 (rsA (V.take k)).1.qu, .int .i64 (rsA (V.take k)).1.da, .int .i64 (rsA (V.take k)).1.jo]).heap[w3.heap.size]? = some (.cells #[.int .i64 (rsA (V.take k)).1.cl, .int .i64 (rsA (V.take k)).1.wi, .int .i64 (rsA (V.take k)).1.pl, .int .i64 (rsA (V.take k)).1.ca, .int .i64 (rsA (V.take k)).1.ino, .int .i64 (rsA (V.take k)).1.qu, .int .i64 (rsA (V.take k)).1.da, .int .i64 (rsA (V.take k)).1.jo] 33 (0, 0)) := (setRow_other _ _ _ _ (by omega)).trans h54
      have h75 : (x4.setRow w5.heap.size #[.int .i64 (rsA (V.take k)).1.cl, .int .i64 (rsA (V.take k)).1.wi, .int .i64 (rsA (V.take k)).1.pl, .int .i64 (rsA (V.take k)).1.ca, .int .i64 (rsA (V.take k)).1.ino, .int .i64 (rsA (V.take k)).1.qu, .int .i64 (rsA (V.take k)).1.da, .int .i64 (rsA (V.take k)).1.jo]).heap[w5.heap.size]? = some (.cells #[.int .i64 (rsA (V.take k)).1.cl, .int .i64 (rsA (V.take k)).1.wi, .int .i64 (rsA (V.take k)).1.pl, .int .i64 (rsA (V.take k)).1.ca, .int .i64 (rsA (V.take k)).1.ino, .int .i64 (rsA (V.take k)).1.qu, .int .i64 (rsA (V.take k)).1.da, .int .i64 (rsA (V.take k)).1.jo] 33 (0, 0)) := setRow_heap _ _ _ _ _ _ h74
      have hq5 : Below w.heap.size w (x4.setRow w5.heap.size #[.int .i64 (rsA (V.take k)).1.cl, .int .i64 (rsA (V.take k)).1.wi, .int .i64 (rsA (V.take k)).1.pl, .int .i64 (rsA (V.take k)).1.ca, .int .i64 (rsA (V.take k)).1.ino, .int .i64 (rsA (V.take k)).1.qu, .int .i64 (rsA (V.take k)).1.da, .int .i64 (rsA (V.take k)).1.jo]) := below_setRow hq4 (by omega) _
      clear h54 h74 hq4
      obtain ⟨a0, a1, a2, a3, a4, a5, a6, a7⟩ := sh_of_row h55
      obtain ⟨b0, b1, b2, b3, b4, b5, b6, b7⟩ := sh_of_row h75
      go_wp2_with fail
      clear a0 a1 a2 a3 a4 a5 a6 a7 b0 b1 b2 b3 b4 b5 b6 b7 hst
      generalize x4.setRow w5.heap.size #[.int .i64 (rsA (V.take k)).1.cl, .int .i64 (rsA (V.take k)).1.wi, .int .i64 (rsA (V.take k)).1.pl, .int .i64 (rsA (V.take k)).1.ca, .int .i64 (rsA (V.take k)).1.ino, .int .i64 (rsA (V.take k)).1.qu, .int .i64 (rsA (V.take k)).1.da, .int .i64 (rsA (V.take k)).1.jo] = x5 at *
      refine (sameShape_any (rsA (V.take k)).1 (rsA (V.take k)).1 _).mono ?_
      rintro e x6 ⟨rfl, hb⟩
      rw [decide_eq_true (rfl : (rsA (V.take k)).1 = (rsA (V.take k)).1)]
      have hq6 := hq5.trans (hb.mono hq5.size)
      clear h55 h75 hq5 hb
      go_wp2_with (go_at_call 13; refine (num_id _ _).mono ?_; rintro e wn ⟨rfl, hwn⟩; subst wn)
      go_ret
      exact ⟨rfl, hq6⟩
end Go.Proofs.YtgpeefedboomoabDoor
