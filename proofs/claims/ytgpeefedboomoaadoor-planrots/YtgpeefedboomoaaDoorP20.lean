/- PlanRots, walked. -/
import Derived.Test.YtgpeefedboomoaaDoorP17
namespace Go.Proofs.YtgpeefedboomoaaDoor
open Go.RowKit
set_option maxRecDepth 100000

attribute [local go_sem ↓ 100000] ly_store ly_load sh_store
theorem setRow_past (w : World) (q : Obj) (g : Nat) (cs : Array Value) (h : g < w.heap.size) : (w.alloc q).setRow g cs = (w.setRow g cs).alloc q := by
  simp only [World.setRow, World.alloc]
  congr 1
  apply Array.ext_getElem?
  intro i
  rw [Array.getElem?_modify, Array.getElem?_push, Array.getElem?_push, Array.size_modify, Array.getElem?_modify]
  by_cases hi : i = w.heap.size
  · subst hi
    rw [if_pos rfl, if_pos rfl, if_neg (by omega)]
  · rw [if_neg hi, if_neg hi]
theorem ShStore.under (b : Nat) (q : Obj) (x0 x1 x2 x3 x4 x5 x6 x7 : Int) (o : Oper) (a : Act) (w : World) (next : Act → World → Prop) (Q : Exit → Act → World → Prop) (hb : b = w.heap.size) :
    ShStore (.pointer (some ⟨b, 0, none⟩)) (.agg #[.int .i64 x0, .int .i64 x1, .int .i64 x2, .int .i64 x3, .int .i64 x4, .int .i64 x5, .int .i64 x6, .int .i64 x7]) o a ((w.alloc (.cells #[.int .i64 0, .int .i64 0, .int .i64 0, .int .i64 0, .int .i64 0, .int .i64 0, .int .i64 0, .int .i64 0] 23)).alloc q) next Q = next (a.put o.dst undef) ((w.alloc (.cells #[.int .i64 x0, .int .i64 x1, .int .i64 x2, .int .i64 x3, .int .i64 x4, .int .i64 x5, .int .i64 x6, .int .i64 x7] 23)).alloc q) := by
  subst hb
  rw [ShStore.row (((newBox _ q).block _ (by simp)).trans (heap_alloc_last w _)) rfl, setRow_past _ _ _ _ (by simp), World.setRow_alloc_new]
attribute [local go_sem] LyStore.new LyLoad.new LyStore.at LyLoad.at ShStore.new ShStore.at ShStore.under

theorem xor8 {y x : Int} (h0 : 0 ≤ y) (h1 : y ≤ 255) (h2 : 1 ≤ x) (h3 : x ≤ 255) : (0 ≤ bits .xor .u8 y x ∧ bits .xor .u8 y x ≤ 255) ∧ ¬ bits .xor .u8 y x = y := by
  rw [u8_xor y x h0 (by omega) (by omega) (by omega)]
  have hl : y.toNat ^^^ x.toNat < 2 ^ 8 := Nat.xor_lt_two_pow (by omega) (by omega)
  refine ⟨⟨by omega, by omega⟩, fun e => ?_⟩
  have e2 : y.toNat ^^^ x.toNat = y.toNat := by omega
  have e3 : y.toNat ^^^ (y.toNat ^^^ x.toNat) = y.toNat ^^^ y.toNat := by rw [e2]
  rw [← Nat.xor_assoc, Nat.xor_self, Nat.zero_xor] at e3
  omega
theorem bl_cell {w : World} {g a : Nat} {bs : List Int} (h : w.heap[g]? = some (bl bs)) (ha : a < bs.length) : w.cell? ⟨g, a, none⟩ = some (.int .u8 (bs.getD a 0)) := by
  simp only [World.cell?, h]
  simp [ha, List.getD]
theorem bl_set {w : World} {g : Nat} {bs : List Int} (h : w.heap[g]? = some (bl bs)) (a : Nat) (z : Int) : (w.setCell ⟨g, a, none⟩ (.int .u8 z)).heap[g]? = some (bl (bs.set a z)) := by
  rw [heap_setCell_same w g a _ _ _ h]
  simp [List.map_set]
theorem Bds.set {w : World} {g a : Nat} {v : Value} (h : Bds w) (hg : g ≠ 0) : Bds (w.setCell ⟨g, a, none⟩ v) :=
  ⟨(World.cell?_of_block (w := w) (a := ⟨0, 0, none⟩) (Below.heap_setCell w ⟨g, a, none⟩ v _ (Ne.symm hg))).trans h.c0, (World.cell?_of_block (w := w) (a := ⟨0, 1, none⟩) (Below.heap_setCell w ⟨g, a, none⟩ v _ (Ne.symm hg))).trans h.c1, (World.cell?_of_block (w := w) (a := ⟨0, 2, none⟩) (Below.heap_setCell w ⟨g, a, none⟩ v _ (Ne.symm hg))).trans h.c2, (World.cell?_of_block (w := w) (a := ⟨0, 3, none⟩) (Below.heap_setCell w ⟨g, a, none⟩ v _ (Ne.symm hg))).trans h.c3, (World.cell?_of_block (w := w) (a := ⟨0, 4, none⟩) (Below.heap_setCell w ⟨g, a, none⟩ v _ (Ne.symm hg))).trans h.c4, (World.cell?_of_block (w := w) (a := ⟨0, 5, none⟩) (Below.heap_setCell w ⟨g, a, none⟩ v _ (Ne.symm hg))).trans h.c5, (World.cell?_of_block (w := w) (a := ⟨0, 6, none⟩) (Below.heap_setCell w ⟨g, a, none⟩ v _ (Ne.symm hg))).trans h.c6, (World.cell?_of_block (w := w) (a := ⟨0, 7, none⟩) (Below.heap_setCell w ⟨g, a, none⟩ v _ (Ne.symm hg))).trans h.c7, (World.cell?_of_block (w := w) (a := ⟨0, 8, none⟩) (Below.heap_setCell w ⟨g, a, none⟩ v _ (Ne.symm hg))).trans h.c8, (World.cell?_of_block (w := w) (a := ⟨0, 9, none⟩) (Below.heap_setCell w ⟨g, a, none⟩ v _ (Ne.symm hg))).trans h.c9, (World.cell?_of_block (w := w) (a := ⟨0, 10, none⟩) (Below.heap_setCell w ⟨g, a, none⟩ v _ (Ne.symm hg))).trans h.c10, (World.cell?_of_block (w := w) (a := ⟨0, 11, none⟩) (Below.heap_setCell w ⟨g, a, none⟩ v _ (Ne.symm hg))).trans h.c11, (World.cell?_of_block (w := w) (a := ⟨0, 12, none⟩) (Below.heap_setCell w ⟨g, a, none⟩ v _ (Ne.symm hg))).trans h.c12, (World.cell?_of_block (w := w) (a := ⟨0, 13, none⟩) (Below.heap_setCell w ⟨g, a, none⟩ v _ (Ne.symm hg))).trans h.c13, (World.cell?_of_block (w := w) (a := ⟨0, 14, none⟩) (Below.heap_setCell w ⟨g, a, none⟩ v _ (Ne.symm hg))).trans h.c14, (World.cell?_of_block (w := w) (a := ⟨0, 15, none⟩) (Below.heap_setCell w ⟨g, a, none⟩ v _ (Ne.symm hg))).trans h.c15⟩
theorem Bds.row {w : World} {g : Nat} {cs : Array Value} (h : Bds w) (hg : g ≠ 0) : Bds (w.setRow g cs) :=
  ⟨(cell_setRow_other w g cs ⟨0, 0, none⟩ (Ne.symm hg)).trans h.c0, (cell_setRow_other w g cs ⟨0, 1, none⟩ (Ne.symm hg)).trans h.c1, (cell_setRow_other w g cs ⟨0, 2, none⟩ (Ne.symm hg)).trans h.c2, (cell_setRow_other w g cs ⟨0, 3, none⟩ (Ne.symm hg)).trans h.c3, (cell_setRow_other w g cs ⟨0, 4, none⟩ (Ne.symm hg)).trans h.c4, (cell_setRow_other w g cs ⟨0, 5, none⟩ (Ne.symm hg)).trans h.c5, (cell_setRow_other w g cs ⟨0, 6, none⟩ (Ne.symm hg)).trans h.c6, (cell_setRow_other w g cs ⟨0, 7, none⟩ (Ne.symm hg)).trans h.c7, (cell_setRow_other w g cs ⟨0, 8, none⟩ (Ne.symm hg)).trans h.c8, (cell_setRow_other w g cs ⟨0, 9, none⟩ (Ne.symm hg)).trans h.c9, (cell_setRow_other w g cs ⟨0, 10, none⟩ (Ne.symm hg)).trans h.c10, (cell_setRow_other w g cs ⟨0, 11, none⟩ (Ne.symm hg)).trans h.c11, (cell_setRow_other w g cs ⟨0, 12, none⟩ (Ne.symm hg)).trans h.c12, (cell_setRow_other w g cs ⟨0, 13, none⟩ (Ne.symm hg)).trans h.c13, (cell_setRow_other w g cs ⟨0, 14, none⟩ (Ne.symm hg)).trans h.c14, (cell_setRow_other w g cs ⟨0, 15, none⟩ (Ne.symm hg)).trans h.c15⟩
theorem sh_of_row {w : World} {b : Nat} {s : Shp} (h : w.heap[b]? = some (.cells #[.int .i64 s.cl, .int .i64 s.wi, .int .i64 s.pl, .int .i64 s.ca, .int .i64 s.ino, .int .i64 s.qu, .int .i64 s.da, .int .i64 s.jo] 23 (0, 0))) : ShBox w b s := by
  constructor <;> simp [World.cell?, h]
theorem set_getD (l : List Int) (a : Nat) (z : Int) (h : a < l.length) : (l.set a z).getD a 0 = z := by simp [List.getD, h]
theorem rep_getD (n a : Nat) : (List.replicate n (0 : Int)).getD a 0 = 0 := by
  simp only [List.getD, List.getElem?_replicate]
  split <;> rfl
/-- A superblock in which one byte has become another one is refused. -/
theorem rs_spoil {s : Shp} {a : Nat} {z : Int} (ha : a < 512) (hz : 0 ≤ z ∧ z ≤ 255) (hne : ¬ z = (superB s).getD a 0) : (rsA ((superB s).set a z)).2 = 61 ∨ (rsA ((superB s).set a z)).2 = 62 := by
  have hl : ((superB s).set a z).length = 512 := by rw [List.length_set, superB_length]
  have hsb := superB_by s
  have hlen := superB_length s
  unfold rsA
  by_cases h4 : a < 4
  · left
    rw [if_pos (Or.inr ?_)]
    intro e
    have e1 : (((superB s).set a z).take 4).getD a 0 = z := by
      rw [List.take_set]
      simp [List.getD, h4, hlen]
    rw [e, ← superB_magic s] at e1
    apply hne
    rw [← e1]
    simp [List.getD, h4]
  have hm : ((superB s).set a z).take 4 = [65, 78, 88, 83] := by
    rw [List.take_set, List.set_eq_of_length_le (by simp; omega), superB_magic]
  rw [if_neg (fun e => e.elim (fun e => e hl) (fun e => e hm))]
  by_cases h36 : a < 36
  · right
    rw [if_pos ?_]
    intro e
    have e8 : (((superB s).set a z).drop 36).take 8 = be (sumOf (headB s)) 8 := by
      rw [List.drop_set, if_pos h36, superB_sum]
    have e36 : ((superB s).set a z).take 36 = (headB s).set a z := by rw [List.take_set, superB_take]
    rw [e8, e36, val_be 8 _ (sumOf_u _).1 (Int.lt_of_le_of_lt (sumOf_u _).2 (by decide))] at e
    have hh := sum_set (headB_by s) hz (by rw [headB_length]; exact h36) e.symm
    apply hne
    rw [hh, ← superB_take]
    simp [List.getD, h36]
  have e36 : ((superB s).set a z).take 36 = headB s := by rw [List.take_set, List.set_eq_of_length_le (by simp; omega), superB_take]
  by_cases h44 : a < 44
  · right
    rw [if_pos ?_]
    intro e
    have e8 : (((superB s).set a z).drop 36).take 8 = (be (sumOf (headB s)) 8).set (a - 36) z := by
      rw [List.drop_set, if_neg h36, List.take_set, superB_sum]
    rw [e8, e36] at e
    have hb : ∀ x ∈ (be (sumOf (headB s)) 8).set (a - 36) z, 0 ≤ x ∧ x ≤ 255 := set_bys (be_by _ 8) hz
    have h2 := be_val _ hb
    rw [List.length_set, be_length, e] at h2
    have h3 : (be (sumOf (headB s)) 8).getD (a - 36) 0 = z := by
      conv => lhs; rw [h2]
      exact set_getD _ _ _ (by rw [be_length]; omega)
    apply hne
    rw [← h3, ← superB_sum]
    have : 36 + (a - 36) = a := by omega
    simp only [List.getD, List.getElem?_take, List.getElem?_drop, this]
    rw [if_pos (by omega)]
  have e8 : (((superB s).set a z).drop 36).take 8 = be (sumOf (headB s)) 8 := by
    rw [List.drop_set, if_neg h36, List.take_set, List.set_eq_of_length_le (by simp; omega), superB_sum]
  rw [e8, e36, val_be 8 _ (sumOf_u _).1 (Int.lt_of_le_of_lt (sumOf_u _).2 (by decide)), if_neg (fun e => e rfl)]
  left
  rw [if_pos ?_]
  intro e
  have er : ((superB s).set a z).drop 44 = (List.replicate 468 (0 : Int)).set (a - 44) z := by rw [List.drop_set, if_neg h44, superB_rest]
  have hmem : z ∈ ((superB s).set a z).drop 44 := by
    rw [er]
    exact List.mem_set (by simp; omega) z
  have hz0 := e z hmem
  apply hne
  rw [hz0]
  have h5 : (superB s).getD a 0 = ((superB s).drop 44).getD (a - 44) 0 := by
    have : 44 + (a - 44) = a := by omega
    simp only [List.getD, List.getElem?_drop, this]
  rw [h5, superB_rest]
  exact (rep_getD 468 (a - 44)).symm

set_option maxHeartbeats 8000000 in
theorem rots_any (s : Shp) (at0 x : Int) (w : World) (hB : Bds w) (_hat : -9223372036854775808 ≤ at0 ∧ at0 ≤ 9223372036854775807) (_hx : -9223372036854775808 ≤ x ∧ x ≤ 9223372036854775807) : Calls Tryd.prog 4 #[shV s, .int .i64 at0, .int .i64 x] w fun e w' => e = .returned (.bool true) ∧ Below w.heap.size w w' := by
  have hq := Below.refl w.heap.size w
  have hpos := hB.lt
  go_enter Tryd.func4, Tryd.ntmps4
  have hn := newBox w (.cells #[.int .i64 s.cl, .int .i64 s.wi, .int .i64 s.pl, .int .i64 s.ca, .int .i64 s.ino, .int .i64 s.qu, .int .i64 s.da, .int .i64 s.jo] 23)
  have hS_1 := ShBox.new w s
  have lt_hS_1 : w.heap.size < (w.alloc (.cells #[.int .i64 s.cl, .int .i64 s.wi, .int .i64 s.pl, .int .i64 s.ca, .int .i64 s.ino, .int .i64 s.qu, .int .i64 s.da, .int .i64 s.jo] 23)).heap.size := by simp
  have hB_1 := hB.later hn (Nat.le_refl _)
  have hq_1 := hq.trans (hn.mono hq.size)
  clear hB hq hn
  go_wp2_with fail
  generalize (w.alloc (.cells #[.int .i64 s.cl, .int .i64 s.wi, .int .i64 s.pl, .int .i64 s.ca, .int .i64 s.ino, .int .i64 s.qu, .int .i64 s.da, .int .i64 s.jo] 23)) = w1 at *
  refine (first_any _ hB_1).mono ?_
  rintro e w2 ⟨rfl, hb⟩
  have hB_2 := hB_1.later hb (Nat.le_refl _)
  have hq_2 := hq_1.trans (hb.mono hq_1.size)
  have hS_2 := hS_1.later hb (by first | exact lt_hS_1 | omega)
  have lt_hS_2 := Nat.lt_of_lt_of_le lt_hS_1 hb.size
  clear hB_1 hq_1 hS_1 lt_hS_1 hb
  go_wp2_with fail
  refine (small_any _).mono ?_
  rintro e w3 ⟨rfl, hb⟩
  have hB_3 := hB_2.later hb (Nat.le_refl _)
  have hq_3 := hq_2.trans (hb.mono hq_2.size)
  have hS_3 := hS_2.later hb (by first | exact lt_hS_2 | omega)
  have lt_hS_3 := Nat.lt_of_lt_of_le lt_hS_2 hb.size
  clear hB_2 hq_2 hS_2 lt_hS_2 hb
  have hT0 := hq_3.size
  have hn := newBox w3 (.cells #[.int .i64 smS.cl, .int .i64 smS.wi, .int .i64 smS.pl, .int .i64 smS.ca, .int .i64 smS.ino, .int .i64 smS.qu, .int .i64 smS.da, .int .i64 smS.jo] 23)
  have hT_4 : (w3.alloc (.cells #[.int .i64 smS.cl, .int .i64 smS.wi, .int .i64 smS.pl, .int .i64 smS.ca, .int .i64 smS.ino, .int .i64 smS.qu, .int .i64 smS.da, .int .i64 smS.jo] 23)).heap[w3.heap.size]? = some (.cells #[.int .i64 smS.cl, .int .i64 smS.wi, .int .i64 smS.pl, .int .i64 smS.ca, .int .i64 smS.ino, .int .i64 smS.qu, .int .i64 smS.da, .int .i64 smS.jo] 23 (0, 0)) := heap_alloc_last w3 _
  have hB_4 := hB_3.later hn (Nat.le_refl _)
  have hq_4 := hq_3.trans (hn.mono hq_3.size)
  have hS_4 := hS_3.later hn (by first | exact lt_hS_3 | omega)
  have lt_hS_4 := Nat.lt_of_lt_of_le lt_hS_3 hn.size
  clear hB_3 hq_3 hS_3 lt_hS_3 hn
  have hn := newBox (w3.alloc (.cells #[.int .i64 smS.cl, .int .i64 smS.wi, .int .i64 smS.pl, .int .i64 smS.ca, .int .i64 smS.ino, .int .i64 smS.qu, .int .i64 smS.da, .int .i64 smS.jo] 23)) (.cells #[.int .i64 smL.bo, .int .i64 smL.jr, .int .i64 smL.jl, .int .i64 smL.le, .int .i64 smL.ll, .int .i64 smL.bi, .int .i64 smL.bl, .int .i64 smL.ta, .int .i64 smL.tl, .int .i64 smL.dt, .int .i64 smL.dl, .int .i64 smL.to, .int .i64 smL.sh.cl, .int .i64 smL.sh.wi, .int .i64 smL.sh.pl, .int .i64 smL.sh.ca, .int .i64 smL.sh.ino, .int .i64 smL.sh.qu, .int .i64 smL.sh.da, .int .i64 smL.sh.jo] 26)
  have hB_5 := hB_4.later hn (Nat.le_refl _)
  have hq_5 := hq_4.trans (hn.mono hq_4.size)
  have hS_5 := hS_4.later hn (by first | exact lt_hS_4 | omega)
  have hT_5 := (hn.block _ (lt_of_block hT_4)).trans hT_4
  have lt_hS_5 := Nat.lt_of_lt_of_le lt_hS_4 hn.size
  clear hB_4 hq_4 hS_4 lt_hS_4 hT_4 hn
  obtain ⟨a0, a1, a2, a3, a4, a5, a6, a7⟩ := hS_5
  go_wp2_with fail
  have hS_5 := ShBox.mk a0 a1 a2 a3 a4 a5 a6 a7
  clear a0 a1 a2 a3 a4 a5 a6 a7
  generalize ((w3.alloc (.cells #[.int .i64 smS.cl, .int .i64 smS.wi, .int .i64 smS.pl, .int .i64 smS.ca, .int .i64 smS.ino, .int .i64 smS.qu, .int .i64 smS.da, .int .i64 smS.jo] 23)).alloc (.cells #[.int .i64 smL.bo, .int .i64 smL.jr, .int .i64 smL.jl, .int .i64 smL.le, .int .i64 smL.ll, .int .i64 smL.bi, .int .i64 smL.bl, .int .i64 smL.ta, .int .i64 smL.tl, .int .i64 smL.dt, .int .i64 smL.dl, .int .i64 smL.to, .int .i64 smL.sh.cl, .int .i64 smL.sh.wi, .int .i64 smL.sh.pl, .int .i64 smL.sh.ca, .int .i64 smL.sh.ino, .int .i64 smL.sh.qu, .int .i64 smL.sh.da, .int .i64 smL.sh.jo] 26)) = w5 at *
  refine (plan_any s _ hB_5).mono ?_
  rintro e w6 ⟨rfl, hb⟩
  have hB_6 := hB_5.later hb (Nat.le_refl _)
  have hq_6 := hq_5.trans (hb.mono hq_5.size)
  have hS_6 := hS_5.later hb (by first | exact lt_hS_5 | omega)
  have hT_6 := (hb.block _ (lt_of_block hT_5)).trans hT_5
  have lt_hS_6 := Nat.lt_of_lt_of_le lt_hS_5 hb.size
  clear hB_5 hq_5 hS_5 lt_hS_5 hT_5 hb
  have hn := newBox w6 (.cells #[.int .i64 (planL s).bo, .int .i64 (planL s).jr, .int .i64 (planL s).jl, .int .i64 (planL s).le, .int .i64 (planL s).ll, .int .i64 (planL s).bi, .int .i64 (planL s).bl, .int .i64 (planL s).ta, .int .i64 (planL s).tl, .int .i64 (planL s).dt, .int .i64 (planL s).dl, .int .i64 (planL s).to, .int .i64 (planL s).sh.cl, .int .i64 (planL s).sh.wi, .int .i64 (planL s).sh.pl, .int .i64 (planL s).sh.ca, .int .i64 (planL s).sh.ino, .int .i64 (planL s).sh.qu, .int .i64 (planL s).sh.da, .int .i64 (planL s).sh.jo] 26)
  have hB_7 := hB_6.later hn (Nat.le_refl _)
  have hq_7 := hq_6.trans (hn.mono hq_6.size)
  have hS_7 := hS_6.later hn (by first | exact lt_hS_6 | omega)
  have hT_7 := (hn.block _ (lt_of_block hT_6)).trans hT_6
  have lt_hS_7 := Nat.lt_of_lt_of_le lt_hS_6 hn.size
  clear hB_6 hq_6 hS_6 lt_hS_6 hT_6 hn
  by_cases hp : planE s = 0
  case neg =>
    have hx : (planE s == 0) = false := by simpa using hp
    have hE0 := smE
    have HX : Hid ((planE s == 0) = false) := hx
    by_cases ha : at0 < 0
    · have d0 : decide (at0 < 0) = true := decide_eq_true ha
      clear hT_7
      go_wp2_with (go_at_call 12; refine (num_id _ _).mono ?_; rintro e wn ⟨rfl, hwn⟩; subst wn)
      go_ret
      exact ⟨rfl, hq_7⟩
    have d0 : decide (at0 < 0) = false := decide_eq_false ha
    by_cases hx1 : x < 1
    · have d1 : decide (x < 1) = true := decide_eq_true hx1
      clear hT_7
      go_wp2_with (go_at_call 12; refine (num_id _ _).mono ?_; rintro e wn ⟨rfl, hwn⟩; subst wn)
      go_ret
      exact ⟨rfl, hq_7⟩
    have d1 : decide (x < 1) = false := decide_eq_false hx1
    by_cases hx2 : 255 < x
    · have d2 : decide (255 < x) = true := decide_eq_true hx2
      clear hT_7
      go_wp2_with (go_at_call 12; refine (num_id _ _).mono ?_; rintro e wn ⟨rfl, hwn⟩; subst wn)
      go_ret
      exact ⟨rfl, hq_7⟩
    have d2 : decide (255 < x) = false := decide_eq_false hx2
    obtain ⟨a0, a1, a2, a3, a4, a5, a6, a7⟩ := sh_of_row hT_7
    go_wp2_with (go_at_call 12; refine (num_id _ _).mono ?_; rintro e wn ⟨rfl, hwn⟩; subst wn)
    clear a0 a1 a2 a3 a4 a5 a6 a7 d0 d1 d2
    have hsz0 := hq_7.size
    refine (super_any smS _ hB_7).mono ?_
    rintro e w8 ⟨ao, n, c, rfl, hb, _, hok⟩
    have hB_8 := hB_7.later hb (Nat.le_refl _)
    have hq_8 := hq_7.trans (hb.mono hq_7.size)
    have hS_8 := hS_7.later hb (by first | exact lt_hS_7 | omega)
    have hT_8 := (hb.block _ (lt_of_block hT_7)).trans hT_7
    have lt_hS_8 := Nat.lt_of_lt_of_le lt_hS_7 hb.size
    clear hB_7 hq_7 hS_7 lt_hS_7 hT_7 hb
    obtain ⟨rfl, rfl, g, rfl, hg, hr⟩ := hok smE
    rw [smE]
    clear hok
    obtain ⟨a, ha5, e1⟩ : ∃ a : Nat, a < 512 ∧ at0.tmod 512 = a := ⟨(at0 % 512).toNat, by omega, by rw [Int.tmod_eq_emod_of_nonneg (by omega)]; omega⟩
    obtain ⟨y, hy⟩ : ∃ y, (superB smS).getD a 0 = y := ⟨_, rfl⟩
    have hyb := getD_by (superB_by smS) (by rw [superB_length]; exact ha5 : a < (superB smS).length)
    rw [hy] at hyb
    have e2 : IntKind.u8.wrap x = x := by rw [IntKind.wrap_u8]; omega
    obtain ⟨z, hz⟩ : ∃ z, bits .xor .u8 y x = z := ⟨_, rfl⟩
    have hzb := xor8 hyb.1 hyb.2 (by omega : 1 ≤ x) (by omega : x ≤ 255)
    rw [hz] at hzb
    have hc : w8.cell? ⟨g, a, none⟩ = some (.int .u8 y) := by rw [← hy]; exact bl_cell hr (by rw [superB_length]; exact ha5)
    have hfz : w8.frozen? ⟨g, a, none⟩ = false := by simp [World.frozen?, hr]
    have hrow := bl_set hr a z
    have hbel := (Below.refl w8.heap.size w8)
    have ai : (a : Int) < 512 := by omega
    have HY : Hid ((superB smS).getD a 0 = y) := hy
    clear hy hbel
    have hD2 : Bds (w8.setCell ⟨g, a, none⟩ (.int .u8 z)) := Bds.set hB_8 (by omega)
    have hq2 : Below w.heap.size w (w8.setCell ⟨g, a, none⟩ (.int .u8 z)) := hq_8.setCell (p := ⟨g, a, none⟩) (by show w.heap.size ≤ g; omega) _
    go_wp2_with (go_at_call 12; refine (num_id _ _).mono ?_; rintro e wn ⟨rfl, hwn⟩; subst wn)
    generalize (w8.setCell ⟨g, a, none⟩ (.int .u8 z)) = w9 at *
    refine (readSuper_any _ 512 512 ((superB smS).set a z) _ hD2 (lies_bl hrow (by rw [List.length_set, superB_length])) (set_bys (superB_by smS) hzb.1)).mono ?_
    rintro e w10 ⟨rfl, hb⟩
    have hB_10 := hD2.later hb (Nat.le_refl _)
    have hq_10 := hq2.trans (hb.mono hq2.size)
    clear hD2 hq2 hb
    have hE := rs_spoil (s := smS) ha5 hzb.1 (by rw [HY.out]; exact hzb.2)
    obtain ⟨q, hq8⟩ : ∃ q, (rsA ((superB smS).set a z)).2 = q := ⟨_, rfl⟩
    obtain ⟨u, hu8⟩ : ∃ u, (rsA ((superB smS).set a z)).1 = u := ⟨_, rfl⟩
    rw [hq8, hu8]
    rw [hq8] at hE
    clear hq8 hu8
    have hn := newBox w10 (.cells #[.int .i64 u.cl, .int .i64 u.wi, .int .i64 u.pl, .int .i64 u.ca, .int .i64 u.ino, .int .i64 u.qu, .int .i64 u.da, .int .i64 u.jo] 23)
    have hB_11 := hB_10.later hn (Nat.le_refl _)
    have hq_11 := hq_10.trans (hn.mono hq_10.size)
    clear hB_10 hq_10 hn
    rcases hE with rfl | rfl
    all_goals
      go_wp2_with (go_at_call 12; refine (num_id _ _).mono ?_; rintro e wn ⟨rfl, hwn⟩; subst wn)
      go_ret
      exact ⟨rfl, hq_11⟩
  have hx : (planE s == 0) = true := by simp [hp]
  obtain ⟨a0, a1, a2, a3, a4, a5, a6, a7⟩ := hS_7
  have hst := ShStore.row hT_7 rfl
  have hT9 : ((w6.alloc (.cells #[.int .i64 (planL s).bo, .int .i64 (planL s).jr, .int .i64 (planL s).jl, .int .i64 (planL s).le, .int .i64 (planL s).ll, .int .i64 (planL s).bi, .int .i64 (planL s).bl, .int .i64 (planL s).ta, .int .i64 (planL s).tl, .int .i64 (planL s).dt, .int .i64 (planL s).dl, .int .i64 (planL s).to, .int .i64 (planL s).sh.cl, .int .i64 (planL s).sh.wi, .int .i64 (planL s).sh.pl, .int .i64 (planL s).sh.ca, .int .i64 (planL s).sh.ino, .int .i64 (planL s).sh.qu, .int .i64 (planL s).sh.da, .int .i64 (planL s).sh.jo] 26)).setRow w3.heap.size #[.int .i64 s.cl, .int .i64 s.wi, .int .i64 s.pl, .int .i64 s.ca, .int .i64 s.ino, .int .i64 s.qu, .int .i64 s.da, .int .i64 s.jo]).heap[w3.heap.size]? = some (.cells #[.int .i64 s.cl, .int .i64 s.wi, .int .i64 s.pl, .int .i64 s.ca, .int .i64 s.ino, .int .i64 s.qu, .int .i64 s.da, .int .i64 s.jo] 23 (0, 0)) := setRow_heap _ _ _ _ _ _ hT_7
  have hq9 : Below w.heap.size w ((w6.alloc (.cells #[.int .i64 (planL s).bo, .int .i64 (planL s).jr, .int .i64 (planL s).jl, .int .i64 (planL s).le, .int .i64 (planL s).ll, .int .i64 (planL s).bi, .int .i64 (planL s).bl, .int .i64 (planL s).ta, .int .i64 (planL s).tl, .int .i64 (planL s).dt, .int .i64 (planL s).dl, .int .i64 (planL s).to, .int .i64 (planL s).sh.cl, .int .i64 (planL s).sh.wi, .int .i64 (planL s).sh.pl, .int .i64 (planL s).sh.ca, .int .i64 (planL s).sh.ino, .int .i64 (planL s).sh.qu, .int .i64 (planL s).sh.da, .int .i64 (planL s).sh.jo] 26)).setRow w3.heap.size #[.int .i64 s.cl, .int .i64 s.wi, .int .i64 s.pl, .int .i64 s.ca, .int .i64 s.ino, .int .i64 s.qu, .int .i64 s.da, .int .i64 s.jo]) := below_setRow hq_7 (by omega) _
  have hB9 : Bds ((w6.alloc (.cells #[.int .i64 (planL s).bo, .int .i64 (planL s).jr, .int .i64 (planL s).jl, .int .i64 (planL s).le, .int .i64 (planL s).ll, .int .i64 (planL s).bi, .int .i64 (planL s).bl, .int .i64 (planL s).ta, .int .i64 (planL s).tl, .int .i64 (planL s).dt, .int .i64 (planL s).dl, .int .i64 (planL s).to, .int .i64 (planL s).sh.cl, .int .i64 (planL s).sh.wi, .int .i64 (planL s).sh.pl, .int .i64 (planL s).sh.ca, .int .i64 (planL s).sh.ino, .int .i64 (planL s).sh.qu, .int .i64 (planL s).sh.da, .int .i64 (planL s).sh.jo] 26)).setRow w3.heap.size #[.int .i64 s.cl, .int .i64 s.wi, .int .i64 s.pl, .int .i64 s.ca, .int .i64 s.ino, .int .i64 s.qu, .int .i64 s.da, .int .i64 s.jo]) := Bds.row hB_7 (by omega)
  clear hT_7 hq_7 hB_7
  by_cases ha : at0 < 0
  · have d0 : decide (at0 < 0) = true := decide_eq_true ha
    clear hT9
    go_wp2_with (go_at_call 12; refine (num_id _ _).mono ?_; rintro e wn ⟨rfl, hwn⟩; subst wn)
    go_ret
    exact ⟨rfl, hq9⟩
  have d0 : decide (at0 < 0) = false := decide_eq_false ha
  by_cases hx1 : x < 1
  · have d1 : decide (x < 1) = true := decide_eq_true hx1
    clear hT9
    go_wp2_with (go_at_call 12; refine (num_id _ _).mono ?_; rintro e wn ⟨rfl, hwn⟩; subst wn)
    go_ret
    exact ⟨rfl, hq9⟩
  have d1 : decide (x < 1) = false := decide_eq_false hx1
  by_cases hx2 : 255 < x
  · have d2 : decide (255 < x) = true := decide_eq_true hx2
    clear hT9
    go_wp2_with (go_at_call 12; refine (num_id _ _).mono ?_; rintro e wn ⟨rfl, hwn⟩; subst wn)
    go_ret
    exact ⟨rfl, hq9⟩
  have d2 : decide (255 < x) = false := decide_eq_false hx2
  obtain ⟨a0, a1, a2, a3, a4, a5, a6, a7⟩ := sh_of_row hT9
  go_wp2_with (go_at_call 12; refine (num_id _ _).mono ?_; rintro e wn ⟨rfl, hwn⟩; subst wn)
  clear a0 a1 a2 a3 a4 a5 a6 a7 d0 d1 d2
  have hsz0 := hq9.size
  refine (super_any s _ hB9).mono ?_
  rintro e w8 ⟨ao, n, c, rfl, hb, _, hok⟩
  have hB_8 := hB9.later hb (Nat.le_refl _)
  have hq_8 := hq9.trans (hb.mono hq9.size)
  have hT_8 := (hb.block _ (lt_of_block hT9)).trans hT9
  clear hB9 hq9 hT9 hb
  obtain ⟨rfl, rfl, g, rfl, hg, hr⟩ := hok hp
  rw [hp]
  clear hok
  obtain ⟨a, ha5, e1⟩ : ∃ a : Nat, a < 512 ∧ at0.tmod 512 = a := ⟨(at0 % 512).toNat, by omega, by rw [Int.tmod_eq_emod_of_nonneg (by omega)]; omega⟩
  obtain ⟨y, hy⟩ : ∃ y, (superB s).getD a 0 = y := ⟨_, rfl⟩
  have hyb := getD_by (superB_by s) (by rw [superB_length]; exact ha5 : a < (superB s).length)
  rw [hy] at hyb
  have e2 : IntKind.u8.wrap x = x := by rw [IntKind.wrap_u8]; omega
  obtain ⟨z, hz⟩ : ∃ z, bits .xor .u8 y x = z := ⟨_, rfl⟩
  have hzb := xor8 hyb.1 hyb.2 (by omega : 1 ≤ x) (by omega : x ≤ 255)
  rw [hz] at hzb
  have hc : w8.cell? ⟨g, a, none⟩ = some (.int .u8 y) := by rw [← hy]; exact bl_cell hr (by rw [superB_length]; exact ha5)
  have hfz : w8.frozen? ⟨g, a, none⟩ = false := by simp [World.frozen?, hr]
  have hrow := bl_set hr a z
  have hbel := (Below.refl w8.heap.size w8)
  have ai : (a : Int) < 512 := by omega
  have HY : Hid ((superB s).getD a 0 = y) := hy
  clear hy hbel
  have hD2 : Bds (w8.setCell ⟨g, a, none⟩ (.int .u8 z)) := Bds.set hB_8 (by omega)
  have hq2 : Below w.heap.size w (w8.setCell ⟨g, a, none⟩ (.int .u8 z)) := hq_8.setCell (p := ⟨g, a, none⟩) (by show w.heap.size ≤ g; omega) _
  go_wp2_with (go_at_call 12; refine (num_id _ _).mono ?_; rintro e wn ⟨rfl, hwn⟩; subst wn)
  generalize (w8.setCell ⟨g, a, none⟩ (.int .u8 z)) = w9 at *
  refine (readSuper_any _ 512 512 ((superB s).set a z) _ hD2 (lies_bl hrow (by rw [List.length_set, superB_length])) (set_bys (superB_by s) hzb.1)).mono ?_
  rintro e w10 ⟨rfl, hb⟩
  have hB_10 := hD2.later hb (Nat.le_refl _)
  have hq_10 := hq2.trans (hb.mono hq2.size)
  clear hD2 hq2 hb
  have hE := rs_spoil (s := s) ha5 hzb.1 (by rw [HY.out]; exact hzb.2)
  obtain ⟨q, hq8⟩ : ∃ q, (rsA ((superB s).set a z)).2 = q := ⟨_, rfl⟩
  obtain ⟨u, hu8⟩ : ∃ u, (rsA ((superB s).set a z)).1 = u := ⟨_, rfl⟩
  rw [hq8, hu8]
  rw [hq8] at hE
  clear hq8 hu8
  have hn := newBox w10 (.cells #[.int .i64 u.cl, .int .i64 u.wi, .int .i64 u.pl, .int .i64 u.ca, .int .i64 u.ino, .int .i64 u.qu, .int .i64 u.da, .int .i64 u.jo] 23)
  have hB_11 := hB_10.later hn (Nat.le_refl _)
  have hq_11 := hq_10.trans (hn.mono hq_10.size)
  clear hB_10 hq_10 hn
  rcases hE with rfl | rfl
  all_goals
    go_wp2_with (go_at_call 12; refine (num_id _ _).mono ?_; rintro e wn ⟨rfl, hwn⟩; subst wn)
    go_ret
    exact ⟨rfl, hq_11⟩
end Go.Proofs.YtgpeefedboomoaaDoor
