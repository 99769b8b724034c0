/- Pending by its contract. -/
import Derived.Test.YtejfbjjhnhlagaaDJ
namespace Go.Proofs.Ytejfbjjhnhlagaa
open Go.RowKit Go.Maps
open Go.MuLone
set_option maxRecDepth 100000

/-- A list of writes that was handed out: its row, and a block for each one's bytes. -/
structure PList (w : World) (G : Nat) (gs : List Nat) (ps : List (Nat × List Int)) : Prop where
  row : w.heap[G]? = some (.cells (pc ps gs).toArray 69 (0, 0))
  len : gs.length = ps.length
  dat : ∀ (i : Nat) p g, ps[i]? = some p → gs[i]? = some g → w.heap[g]? = some (bl p.2)
  nod : gs.Nodup
  out : G ∉ gs
theorem PList.turns {F : Nat → Prop} {w w' : World} {G : Nat} {gs : List Nat} {ps : List (Nat × List Int)} (h : PList w G gs ps) (ht : Turns F w w') (hG : ¬ F G) (hg : ∀ g ∈ gs, ¬ F g) : PList w' G gs ps :=
  ⟨(ht.block G (heap_lt h.row) hG).trans h.row, h.len, dat_turns h.dat ht hg, h.nod, h.out⟩
theorem take_two (cur : List Value) (j : Nat) (a b : Value) (h : j * 2 + 2 ≤ cur.length) : ((cur.set (j * 2) a).set (j * 2 + 1) b).take ((j + 1) * 2) = cur.take (j * 2) ++ [a, b] := by
  have h1 : j * 2 < ((cur.set (j * 2) a).set (j * 2 + 1) b).length := by simp; omega
  have h2 : j * 2 + 1 < ((cur.set (j * 2) a).set (j * 2 + 1) b).length := by simp; omega
  rw [show (j + 1) * 2 = j * 2 + 1 + 1 by omega, List.take_succ_eq_append_getElem h2, List.take_succ_eq_append_getElem h1, List.take_set, List.take_set, List.set_eq_of_length_le (by simp; omega), List.set_eq_of_length_le (by simp; omega)]
  simp
theorem pc_take : ∀ (ps : List (Nat × List Int)) (gs : List Nat) (j : Nat) (p : Nat × List Int) (g : Nat), gs.length = j → ps[j]? = some p → pc (ps.take (j + 1)) (gs ++ [g]) = pc (ps.take j) gs ++ [.int .i64 p.1, hv g] := fun ps gs j p g hl hp => by
  have hj := (List.getElem?_eq_some_iff.1 hp).1
  rw [List.take_succ_eq_append_getElem hj, (List.getElem?_eq_some_iff.1 hp).2]
  obtain ⟨b, d⟩ := p
  exact pc_snoc _ _ _ _ _ (by simp [hl]; omega)
/-- The list as far as it is filled. -/
structure PPart (w0 w : World) (G : Nat) (gs : List Nat) (ps : List (Nat × List Int)) (L j : Nat) (cur : List Value) : Prop where
  row : w.heap[G]? = some (.cells cur.toArray 69 (0, 0))
  cl : cur.length = L * 2
  tk : cur.take (j * 2) = pc (ps.take j) gs
  len : gs.length = j
  dat : ∀ (i : Nat) p g, ps[i]? = some p → gs[i]? = some g → w.heap[g]? = some (bl p.2)
  nod : gs.Nodup
  hi : ∀ g ∈ gs, w0.heap.size < g
  hG : G = w0.heap.size
theorem PPart.done {w0 w : World} {G : Nat} {gs : List Nat} {ps : List (Nat × List Int)} {L : Nat} {cur : List Value} (h : PPart w0 w G gs ps L L cur) (hL : ps.length = L) : PList w G gs ps := by
  have e1 : cur.take (L * 2) = cur := List.take_of_length_le (by rw [h.cl]; exact Nat.le_refl _)
  have e2 : ps.take L = ps := List.take_of_length_le (by omega)
  have e3 := h.tk
  rw [e1, e2] at e3
  refine ⟨by rw [← e3]; exact h.row, by rw [h.len, hL], h.dat, h.nod, fun hm => ?_⟩
  have := h.hi _ hm
  have := h.hG
  omega
theorem PPart.step {w0 w w2 : World} {G : Nat} {gs : List Nat} {ps : List (Nat × List Int)} {L j : Nat} {cur : List Value} (h : PPart w0 w G gs ps L j cur) (hj : j < L) {p : Nat × List Int} {g : Nat} (hp : ps[j]? = some p) (hb : Below w.heap.size w w2) (hg : w.heap.size ≤ g) (hgb : w2.heap[g]? = some (bl p.2)) :
    PPart w0 ((w2.setCell ⟨G, j * 2, none⟩ (.int .i64 p.1)).setCell ⟨G, j * 2 + 1, none⟩ (hv g)) G (gs ++ [g]) ps L (j + 1) ((cur.set (j * 2) (.int .i64 p.1)).set (j * 2 + 1) (hv g)) := by
  have hGlt := heap_lt h.row
  have hG2 := (hb.block G hGlt).trans h.row
  have hne : g ≠ G := by omega
  have hT : Turns (fun i => i = G) w2 ((w2.setCell ⟨G, j * 2, none⟩ (.int .i64 p.1)).setCell ⟨G, j * 2 + 1, none⟩ (hv g)) := (Turns.cell w2 G _ _).trans (Turns.cell _ G _ _) (fun _ _ h => h)
  have hgo : ∀ x ∈ gs, x < w.heap.size := fun x hx => by
    obtain ⟨i, hi⟩ := List.mem_iff_getElem?.1 hx
    have hil : i < j := by rw [← h.len]; exact (List.getElem?_eq_some_iff.1 hi).1
    have hjp := (List.getElem?_eq_some_iff.1 hp).1
    exact heap_lt (h.dat i _ _ (List.getElem?_eq_getElem (by omega)) hi)
  refine ⟨?_, by simp [h.cl], ?_, by simp [h.len], ?_, ?_, ?_, h.hG⟩
  · rw [heap_setCell_same _ _ _ _ _ _ (heap_setCell_same _ _ _ _ _ _ hG2)]
    simp
  · rw [take_two _ _ _ _ (by rw [h.cl]; omega), pc_take ps gs j p g h.len hp, h.tk]
  · intro i p' g' h1 h2
    by_cases hi : i < gs.length
    · rw [List.getElem?_append_left hi] at h2
      have hx := h.dat i p' g' h1 h2
      have hx2 := (hb.block g' (heap_lt hx)).trans hx
      have hgi := h.hi g' (List.mem_of_getElem? h2)
      have := h.hG
      exact (hT.block g' (heap_lt hx2) (fun e => by omega)).trans hx2
    · rw [List.getElem?_append_right (by omega)] at h2
      have h0 : i - gs.length = 0 := by
        have := (List.getElem?_eq_some_iff.1 h2).1
        simp at this; omega
      rw [h0] at h2
      simp at h2
      subst h2
      have hij : i = j := by have := h.len; omega
      subst hij
      rw [hp] at h1
      obtain rfl := Option.some.inj h1
      exact (hT.block g (heap_lt hgb) hne).trans hgb
  · rw [List.nodup_append]
    refine ⟨h.nod, by simp, fun a ha b hb e => ?_⟩
    obtain rfl := List.mem_singleton.1 hb
    have := hgo a ha
    omega
  · intro x hx
    rcases List.mem_append.1 hx with hx | hx
    · exact h.hi x hx
    · obtain rfl := List.mem_singleton.1 hx
      have := h.hG
      omega

set_option maxHeartbeats 4000000 in
theorem pending_any {w : World} {db : Nat} {S : DevS} {k N : Nat} {F : Nat → Prop} (h : Dev w db 0 S k N F) (hN : N ≤ 1099511627776) :
    Calls Try.prog 28 #[.pointer (some ⟨db, 0, none⟩)] w fun e w' => (∃ G gs, e = .returned (.slice (some ⟨G, 0, none⟩) S.pend.length S.pend.length) ∧ PList w' G gs S.pend ∧ w.heap.size ≤ G ∧ ∀ g ∈ gs, w.heap.size ≤ g) ∧ Same0 w w' db S k N F := by
  obtain ⟨gl, bm, q, pv, gs, Dm, h, f, hl⟩ := h
  obtain ⟨i0, hi, hz0, hz1, hz2⟩ := info_parts Try.info69
  obtain ⟨pa, pcp, hpv⟩ := row_slice h.row
  have hpn := h.pn
  obtain ⟨L, hL⟩ : ∃ L, S.pend.length = L := ⟨_, rfl⟩
  rw [hL] at hpv hpn ⊢
  have hLi : (L : Int) ≤ 1099511627776 := by omega
  have HL : Hid (S.pend.length = L) := hL
  clear hL
  subst hpv
  go_enter_defers Try.func28, Try.ntmps28
  go_wp2_with fail
  refine (lock_dev h).mono ?_
  rintro e w1 ⟨rfl, h1, t1⟩
  have hmk := run_make (P := Try.prog) w1 64 69 i0 _ Try.underlying64 hi hz0 .i64 .i64 (L : Int) (L : Int) (by omega) (Int.le_refl _) (by rw [hz2]; omega) (by omega)
  rw [hz1] at hmk
  simp only [Int.toNat_natCast] at hmk
  obtain ⟨W1, hW1⟩ : ∃ W1, w1.alloc (.cells (madeCells (Value.agg #[.int .i64 0, .slice none 0 0]).cells (L * 2)) 69) = W1 := ⟨_, rfl⟩
  rw [hW1] at hmk
  have hbW1 : Below w1.heap.size w1 W1 := by rw [← hW1]; exact (Below.refl _ w1).alloc (Nat.le_refl _) _
  have hX1 := h1.turns (Below.turns hbW1 (fun _ => False)) id id id (fun _ _ => id) (fun _ _ => id)
  have hP0 : PPart w1 W1 w1.heap.size [] S.pend L 0 (madeCells (Value.agg #[.int .i64 0, .slice none 0 0]).cells (L * 2)).toList := by
    refine ⟨?_, by simp [size_madeCells], by simp [pc], rfl, (fun i p g _ h => by simp at h), List.nodup_nil, by simp, rfl⟩
    rw [← hW1, (MapKept.heap_alloc w1 _).1]
  have c3 := h1.cells.2.2.1
  have c3' := hX1.cells.2.2.1
  clear hW1
  go_wp2_with fail
  go_loopw [24] (fun i wr => ∃ (j : Nat) (gs' : List Nat) (cur : List Value), j ≤ L ∧ i = .int .i64 j ∧ DevX wr db 1 S k N gl bm q (.slice pa L pcp) gs Dm ∧ Below w1.heap.size w1 wr ∧ PPart w1 wr w1.heap.size gs' S.pend L j cur) (fun i _ => L - (intOf i).toNat)
  case atStart => exact ⟨0, [], _, Nat.zero_le _, rfl, hX1, hbW1, hP0⟩
  case round =>
    obtain ⟨j, gs', cur, hj, rfl, hX, hB, hP⟩ := hrel
    by_cases hlt : j < L
    · obtain ⟨pg, g, p, rfl, hp, hg, hpk, hpl, hpy, x0, x1, hgb⟩ := hX.pending (j := j) (by rw [HL.out]; exact hlt)
      obtain ⟨W, hW⟩ : ∃ W, wr.alloc (.cells #[.int .i64 p.1, .slice (some ⟨g, 0, none⟩) 512 512] 69) = W := ⟨_, rfl⟩
      have hbW : Below wr.heap.size wr W := by rw [← hW]; exact (Below.refl _ wr).alloc (Nat.le_refl _) _
      have y0 : W.cell? ⟨wr.heap.size, 0, none⟩ = some (.int .i64 p.1) := by rw [← hW]; simp
      have y1 : W.cell? ⟨wr.heap.size, 1, none⟩ = some (.slice (some ⟨g, 0, none⟩) 512 512) := by rw [← hW]; simp
      have hWs : W.heap.size = wr.heap.size + 1 := by rw [← hW]; simp
      have hgW : Lies W (some ⟨g, 0, none⟩) 512 512 p.2 := Lies.full ((hbW.block g (heap_lt hgb)).trans hgb) hpl
      have hGl := heap_lt hP.row
      have hcl := hP.cl
      have HST : Hid (∀ (w2 : World) (g2 : Nat), Below W.heap.size W w2 → W.heap.size ≤ g2 → w2.heap[g2]? = some (bl p.2) →
          ∃ a b, w2.cell? ⟨w1.heap.size, j * 2, none⟩ = some a ∧ w2.cell? ⟨w1.heap.size, j * 2 + 1, none⟩ = some b ∧ (∀ o, w2.frozen? ⟨w1.heap.size, o, none⟩ = false) ∧ w2.cell? ⟨wr.heap.size, 0, none⟩ = some (.int .i64 p.1) ∧ w2.cell? ⟨wr.heap.size, 1, none⟩ = some (.slice (some ⟨g, 0, none⟩) 512 512)) := fun w2 g2 hb2 hg2 hgb2 => by
        have hr : w2.heap[w1.heap.size]? = some (.cells cur.toArray 69 (0, 0)) := (hb2.block _ (by omega)).trans ((hbW.block _ hGl).trans hP.row)
        have i1 : j * 2 < cur.length := by omega
        have i2 : j * 2 + 1 < cur.length := by omega
        refine ⟨cur[j * 2], cur[j * 2 + 1], by simp [World.cell?, hr, i1], by simp [World.cell?, hr, i2], fun o => by simp [World.frozen?, hr], (hb2.cell (show wr.heap.size < W.heap.size by omega)).trans y0, (hb2.cell (show wr.heap.size < W.heap.size by omega)).trans y1⟩
      have HFN : Hid (∀ (w2 : World) (g2 : Nat), Below W.heap.size W w2 → W.heap.size ≤ g2 → w2.heap[g2]? = some (bl p.2) →
          DevX ((w2.setCell ⟨w1.heap.size, j * 2, none⟩ (.int .i64 p.1)).setCell ⟨w1.heap.size, j * 2 + 1, none⟩ (hv g2)) db 1 S k N gl bm q (.slice (some ⟨pg, 0, none⟩) L pcp) gs Dm ∧ Below w1.heap.size w1 ((w2.setCell ⟨w1.heap.size, j * 2, none⟩ (.int .i64 p.1)).setCell ⟨w1.heap.size, j * 2 + 1, none⟩ (hv g2)) ∧
          ∃ cur', PPart w1 ((w2.setCell ⟨w1.heap.size, j * 2, none⟩ (.int .i64 p.1)).setCell ⟨w1.heap.size, j * 2 + 1, none⟩ (hv g2)) w1.heap.size (gs' ++ [g2]) S.pend L (j + 1) cur') := fun w2 g2 hb2 hg2 hgb2 => by
        have hbr : Below wr.heap.size wr w2 := hbW.trans (hb2.mono hbW.size)
        have hTt : Turns (fun i => i = w1.heap.size) w2 ((w2.setCell ⟨w1.heap.size, j * 2, none⟩ (.int .i64 p.1)).setCell ⟨w1.heap.size, j * 2 + 1, none⟩ (hv g2)) := (Turns.cell w2 w1.heap.size _ _).trans (Turns.cell _ w1.heap.size _ _) (fun _ _ h => h)
        have hX2 := hX.turns (Below.turns hbr (fun _ => False)) id id id (fun _ _ => id) (fun _ _ => id)
        have b1 := heap_lt h1.blk
        have b2 := heap_lt h1.lst
        have b3 := h1.map.lt
        refine ⟨hX2.turns hTt (fun e => by omega) (fun e => by omega) (fun e => by omega) (fun b hb e => ?_) (fun x hx e => ?_), ?_, _, hP.step hlt hp hbr (by omega) hgb2⟩
        · have := (h1.row.lt b hb).2; omega
        · obtain ⟨i, hi⟩ := List.mem_iff_getElem?.1 hx
          have hil : i < S.pend.length := by rw [← h1.gsl]; exact (List.getElem?_eq_some_iff.1 hi).1
          have := heap_lt (h1.dat i _ _ (List.getElem?_eq_getElem hil) hi)
          omega
        · exact (hB.trans (hbr.mono hB.size)).trans (hTt.below (fun i e => by omega) (by have := hbr.size; omega))
      clear hX hp hg hgb hpk hpy hP hB hpl
      generalize p.1 = pb at *
      generalize p.2 = pd at *
      go_wp2_with fail
      try rw [hW]
      go_region_held3 (fun w' => w'.cell? ⟨wr.heap.size, 0, none⟩ = some (.int .i64 pb) ∧ w'.cell? ⟨wr.heap.size, 1, none⟩ = some (.slice (some ⟨g, 0, none⟩) 512 512))
        (first | exact ⟨y0, y1⟩ | exact ⟨z0, z1⟩ | exact ⟨(World.cell?_setCell_other _ _ _ _ (by first | (simp; done) | (simp; omega))).trans ((World.cell?_setCell_other _ _ _ _ (by first | (simp; done) | (simp; omega))).trans z0), (World.cell?_setCell_other _ _ _ _ (by first | (simp; done) | (simp; omega))).trans ((World.cell?_setCell_other _ _ _ _ (by first | (simp; done) | (simp; omega))).trans z1)⟩)
        (first
          | (go_at_call 47; refine (copied_any _ 512 512 pd W.drew (by omega) ⟨hgW.hlen, hgW.hle, hgW.hnone, hgW.hcells⟩).mono ?_; rintro e w2 ⟨g2, rfl, hg2, hgb2, hb2⟩; have hb2 : Below W.heap.size W w2 := ⟨hb2.os, hb2.tape, hb2.output, hb2.size, hb2.block⟩; obtain ⟨ca, cb, k0, k1, kf, z0, z1⟩ := HST.out w2 g2 hb2 hg2 hgb2; have kf0 := kf (j * 2); have kf1 := kf (j * 2 + 1)))
      have hF3 := HFN.out w2 g2 hb2 hg2 hgb2
      obtain ⟨hX3, hB3, cur', hP3⟩ := hF3
      clear HFN HST k0 k1 kf kf0 kf1 z0 z1
      generalize (w2.setCell ⟨w1.heap.size, j * 2, none⟩ (.int .i64 pb)).setCell ⟨w1.heap.size, j * 2 + 1, none⟩ (.slice (some ⟨g2, 0, none⟩) 512 512) = w3 at *
      go_wp2
      go_roundw
      case rel => exact ⟨j + 1, gs' ++ [g2], cur', by omega, by go_num, hX3, hB3, hP3⟩
      case measure => simp [intOf]; omega
    · obtain rfl : j = L := by omega
      have hPL := hP.done HL.out
      have hGlt := heap_lt hP.row
      have hHi := hP.hi
      clear hP
      go_wp2_with fail
      refine leaves_cons (f := 43) (args := #[.pointer (some ⟨db, 0, none⟩)]) (by simp) (by simp [go_sem]) ?_
      refine (unlock_dev .returning hX).mono ?_
      rintro e u' w7 ⟨rfl, rfl, h7, t7⟩
      have hs1 := t1.size
      have hd1 := heap_lt h1.blk
      have hPL7 := hPL.turns t7 (fun e => by omega) (fun g hg e => by have := hHi g hg; omega)
      refine ⟨_, results_tmp rfl _ _ _, ?_⟩
      exact ⟨⟨w1.heap.size, gs', rfl, hPL7, hs1, fun g hg => by have := hHi g hg; omega⟩, Same0.of h7 f hl ((t1.trans (Below.turns hB (fun i => i = db)) (fun _ _ h => h)).trans t7 (fun _ _ h => h))⟩
end Go.Proofs.Ytejfbjjhnhlagaa
