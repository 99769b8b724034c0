/- The document's device: settle, Flush, Crash by their contracts. -/
import Derived.Test.YtejfbjjhnhlagaaPR2
namespace Go.Proofs.Ytejfbjjhnhlagaa
open Go.RowKit Go.Maps
set_option maxRecDepth 100000

theorem splice_set {l d : List Int} {o j : Nat} (h : o + d.length ≤ l.length) (hj : j < d.length) (tl : List Value) : ((splice l o (d.take j)).map (Value.int .u8) ++ tl).toArray.setIfInBounds (o + j) (.int .u8 (d.getD j 0)) = ((splice l o (d.take (j + 1))).map (Value.int .u8) ++ tl).toArray := by
  have hl1 : (d.take j).length = j := by simp; omega
  have hl2 : (d.take (j + 1)).length = j + 1 := by simp; omega
  have e1 : splice l o (d.take j) = l.take o ++ d.take j ++ l.drop (o + j) := by simp [splice, hl1]
  have e2 : splice l o (d.take (j + 1)) = l.take o ++ d.take j ++ (d.getD j 0 :: l.drop (o + j + 1)) := by
    rw [splice, hl2, List.take_succ_eq_append_getElem hj, List.getD_eq_getElem?_getD, List.getElem?_eq_getElem hj]
    simp only [Option.getD_some, List.append_assoc, List.cons_append, List.nil_append, Nat.add_assoc]
  have e3 : l.drop (o + j) = l[o + j]'(by omega) :: l.drop (o + j + 1) := List.drop_eq_getElem_cons _
  rw [e1, e2, e3]
  simp only [List.map_append, List.map_cons, List.append_assoc, List.cons_append, List.setIfInBounds_toArray]
  rw [← List.append_assoc, ← List.append_assoc, List.set_append_right _ _ (by simp; omega)]
  simp only [List.length_append, List.length_map, List.length_take]
  rw [show o + j - (min o l.length + min j d.length) = 0 by omega]
  simp
theorem splice_get {l d : List Int} {o j : Nat} (h : o + d.length ≤ l.length) (hj : j < d.length) (tl : List Value) : ∃ v, ((splice l o (d.take j)).map (Value.int .u8) ++ tl).toArray[o + j]? = some v := by
  refine ⟨_, Array.getElem?_eq_getElem ?_⟩
  have : (splice l o (d.take j)).length = l.length := length_splice _ _ _ (by simp; omega)
  simp [this]; omega

theorem RX.laid {w w' : World} {rb : Nat} {S : DevS} {k gl : Nat} {tl : List Value} {pv : Value} {vs : List (Nat × List Value)} (h : RX w rb S k gl tl pv vs) (b : Nat) (d : List Int) (hb : b < k) (hd : d.length = 512) (hy : ∀ x ∈ d, 0 ≤ x ∧ x ≤ 255)
    (hT : Turns (fun i => i = gl) w w') (hw : w'.heap[gl]? = some (bt (layB S.last (b, d)) tl)) : RX w' rb { S with last := layB S.last (b, d) } k gl tl pv vs := by
  refine ⟨⟨lay_len h.good.len hb hd, h.good.pos, h.good.top, fun x hx => ?_, h.good.pend, h.good.fuse⟩, h.calm, ?_, hw, ?_, h.vsl, ?_, h.a3⟩
  · rcases splice_mem hx with hx | hx
    · exact h.good.by_ x hx
    · exact hy x hx
  · exact (hT.block rb (heap_lt h.blk) h.rg).trans h.blk
  · exact own_turns h.row hT (fun x hx e => h.pg (by rw [hx, e]))
  · exact rdat_turns h.dat hT (fun v hv e => h.a3 v hv e)

set_option maxHeartbeats 2000000 in
theorem settle_any {w : World} {rb : Nat} {S : DevS} {k gl : Nat} {tl : List Value} {pv : Value} {vs : List (Nat × List Value)} (h : RX w rb S k gl tl pv vs) (b g c : Nat) (d : List Int) (hb : b < k)
    (hL : Lies w (some ⟨g, 0, none⟩) 512 c d) (hne : g ≠ gl) (hy : ∀ x ∈ d, 0 ≤ x ∧ x ≤ 255) :
    Calls Try.prog 54 #[.pointer (some ⟨rb, 0, none⟩), .agg #[.int .i64 b, .slice (some ⟨g, 0, none⟩) 512 c]] w fun e w' => e = .returned (.tuple #[]) ∧ RX w' rb { S with last := layB S.last (b, d) } k gl tl pv vs ∧ Turns (fun i => i = gl) w w' := by
  have htop := h.good.top
  have hlen := h.good.len
  have hd := hL.hlen
  have hrb := h.rg
  have c0 := h.cells.1
  have hrlt := heap_lt h.blk
  have hllt := heap_lt h.lst
  have HX : Hid (RX w rb S k gl tl pv vs) := h
  have hlst := h.lst
  clear h
  obtain ⟨W, hW⟩ : ∃ W, w.alloc (.cells #[.int .i64 b, .slice (some ⟨g, 0, none⟩) 512 c] 69) = W := ⟨_, rfl⟩
  have hbW : Below w.heap.size w W := by rw [← hW]; exact (Below.refl _ w).alloc (Nat.le_refl _) _
  have x0 : W.cell? ⟨w.heap.size, 0, none⟩ = some (.int .i64 b) := by rw [← hW]; simp
  have x1 : W.cell? ⟨w.heap.size, 1, none⟩ = some (.slice (some ⟨g, 0, none⟩) 512 c) := by rw [← hW]; simp
  have hLW := hL.below hbW (Nat.le_refl _)
  have hc0 := (hbW.cell hrlt).trans c0
  have hlW := (hbW.block gl hllt).trans hlst
  have hkb : 512 * b + d.length ≤ S.last.length := by rw [hd, hlen]; omega
  have hbi : (b : Int) < 4096 := by omega
  go_enter Try.func54, Try.ntmps54
  go_wp2_with fail
  try rw [hW]
  go_loopw [4] (fun i wr => ∃ j : Nat, j ≤ 512 ∧ i = .int .i64 j ∧ wr.heap[gl]? = some (bt (splice S.last (512 * b) (d.take j)) tl) ∧ Turns (fun i => i = gl) W wr) (fun i _ => 512 - (intOf i).toNat)
  case atStart => exact ⟨0, Nat.zero_le _, rfl, by simpa [splice] using hlW, Turns.refl _ _⟩
  case round =>
    obtain ⟨j, hj, rfl, hr, hT⟩ := hrel
    have hs := hT.size
    by_cases hlt : j < 512
    · have hji : (j : Int) < 512 := by omega
      obtain ⟨v, hv⟩ := splice_get hkb (j := j) (by omega) tl
      have k0 : wr.cell? ⟨gl, 512 * b + j, none⟩ = some v := by simp only [World.cell?, hr]; exact hv
      have f0 : wr.frozen? ⟨gl, 512 * b + j, none⟩ = false := by simp [World.frozen?, hr]
      have hr2 : (wr.setCell ⟨gl, 512 * b + j, none⟩ (.int .u8 (d.getD j 0))).heap[gl]? = some (bt (splice S.last (512 * b) (d.take (j + 1))) tl) := by
        rw [heap_setCell_same _ _ _ _ _ _ hr, splice_set hkb (by omega) tl]
      have hT2 := hT.trans (Turns.cell wr gl (512 * b + j) (.int .u8 (d.getD j 0))) (fun _ _ h => h)
      have wlt : w.heap.size < W.heap.size := by rw [← hW]; simp
      have wne : w.heap.size ≠ gl := by omega
      have y0 : wr.cell? ⟨w.heap.size, 0, none⟩ = some (.int .i64 b) := (World.cell?_of_block (hT.block w.heap.size wlt wne)).trans x0
      have y1 : wr.cell? ⟨w.heap.size, 1, none⟩ = some (.slice (some ⟨g, 0, none⟩) 512 c) := (World.cell?_of_block (hT.block w.heap.size wlt wne)).trans x1
      have y2 : wr.cell? ⟨rb, 0, none⟩ = some (.slice (some ⟨gl, 0, none⟩) (512 * k) (512 * k + tl.length)) := (World.cell?_of_block (hT.block _ (Nat.lt_of_lt_of_le hrlt hbW.size) hrb)).trans hc0
      have hLr := hLW.turns hT (fun ad had e => by obtain rfl := Option.some.inj had; exact hne e)
      obtain ⟨bb, oo, q1, q2⟩ := hLr.at (by omega)
      obtain ⟨rfl, rfl⟩ : bb = g ∧ oo = 0 := by have := Option.some.inj q1; simp at this; exact ⟨this.1.symm, this.2.symm⟩
      have y3 := q2 j hlt
      rw [Nat.zero_add] at y3
      have hki : (512 : Int) * b + j < 512 * k := by omega
      have hki0 : (0 : Int) ≤ 512 * b + j := by omega
      have hw1 : IntKind.i64.wrap (512 * (b : Int)) = 512 * b := by rw [IntKind.wrap_i64]; omega
      have hw2 : IntKind.i64.wrap (512 * (b : Int) + j) = 512 * b + j := by rw [IntKind.wrap_i64]; omega
      have hw4 : (512 * (b : Int) + j).toNat = 512 * b + j := by omega
      have hw5 : ¬ (512 * (b : Int) + j < 0) := by omega
      have hw6 : ¬ (512 * (k : Int) ≤ 512 * (b : Int) + j) := by omega
      have hw8 : (512 * (b : Int) + j) < ((512 * k : Nat) : Int) := by omega
      have HR2 : Hid _ := hr2
      clear hr hr2 hv q1 q2 hLr
      generalize d.getD j 0 = X at *
      have z0 : (wr.setCell ⟨gl, 512 * b + j, none⟩ (.int .u8 X)).cell? ⟨w.heap.size, 0, none⟩ = some (.int .i64 b) := (World.cell?_setCell_other _ _ _ _ (by first | (simp; done) | (simp; omega))).trans y0
      have z1 : (wr.setCell ⟨gl, 512 * b + j, none⟩ (.int .u8 X)).cell? ⟨w.heap.size, 1, none⟩ = some (.slice (some ⟨bb, 0, none⟩) 512 c) := (World.cell?_setCell_other _ _ _ _ (by first | (simp; done) | (simp; omega))).trans y1
      have z2 : (wr.setCell ⟨gl, 512 * b + j, none⟩ (.int .u8 X)).cell? ⟨rb, 0, none⟩ = some (.slice (some ⟨gl, 0, none⟩) (512 * k) (512 * k + tl.length)) := (World.cell?_setCell_other _ _ _ _ (by first | (simp; done) | (simp; omega))).trans y2
      have z3 : (wr.setCell ⟨gl, 512 * b + j, none⟩ (.int .u8 X)).cell? ⟨bb, j, none⟩ = some (.int .u8 X) := (World.cell?_setCell_other _ _ _ _ (by first | (simp; done) | (simp; omega))).trans y3
      go_wp2_with fail
      go_region_held3 (fun w' => w'.cell? ⟨w.heap.size, 0, none⟩ = some (.int .i64 b) ∧ w'.cell? ⟨w.heap.size, 1, none⟩ = some (.slice (some ⟨bb, 0, none⟩) 512 c) ∧ w'.cell? ⟨rb, 0, none⟩ = some (.slice (some ⟨gl, 0, none⟩) (512 * k) (512 * k + tl.length)) ∧ w'.cell? ⟨bb, j, none⟩ = some (.int .u8 X)) (first | exact ⟨y0, y1, y2, y3⟩ | exact ⟨z0, z1, z2, z3⟩) (fail)
      go_wp2
      go_roundw
      case rel => exact ⟨j + 1, by omega, by go_num, HR2.out, ⟨hT2.os, hT2.tape, hT2.output, hT2.size, hT2.block⟩⟩
      case measure => simp [intOf]; omega
    · obtain rfl : j = 512 := by omega
      rw [List.take_of_length_le (by omega)] at hr
      have hTw : Turns (fun i => i = gl) w wr := (Below.turns hbW _).trans hT (fun _ _ h => h)
      have HE : Hid _ := HX.out.laid b d hb hd hy hTw hr
      clear hr
      go_wp2
      first | go_end0 | refine bodyPost_ret (results_none rfl _ _ _) rfl ?_
      exact ⟨rfl, HE.out, hTw⟩
end Go.Proofs.Ytejfbjjhnhlagaa
