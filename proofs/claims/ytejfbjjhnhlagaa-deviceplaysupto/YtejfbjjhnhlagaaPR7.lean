/- The document's device: Pending by its contract. -/
import Derived.Test.YtejfbjjhnhlagaaPR6
namespace Go.Proofs.Ytejfbjjhnhlagaa
open Go.RowKit Go.Maps
set_option maxRecDepth 100000

theorem rpc_take (ps : List (Nat × List Int)) (us : List (Nat × List Value)) (j : Nat) (p : Nat × List Int) (u : Nat × List Value) (hl : us.length = j) (hp : ps[j]? = some p) : rpc (ps.take (j + 1)) (us ++ [u]) = rpc (ps.take j) us ++ [.int .i64 p.1, rv u] := by
  have hj := (List.getElem?_eq_some_iff.1 hp).1
  rw [List.take_succ_eq_append_getElem hj, (List.getElem?_eq_some_iff.1 hp).2]
  obtain ⟨b, d⟩ := p
  exact rpc_snoc _ _ _ _ _ (by simp [hl]; omega)
/-- The list as far as it is filled. -/
structure RPart (w wr : World) (v : Value) (us : List (Nat × List Value)) (ps : List (Nat × List Int)) (j : Nat) : Prop where
  row : wr.ownsRow w.heap.size 69 2 v j (rpc (ps.take j) us)
  len : us.length = j
  dat : ∀ (t : Nat) p u, ps[t]? = some p → us[t]? = some u → wr.heap[u.1]? = some (bt p.2 u.2)
theorem RPart.step {w wr w3 w4 : World} {v v' : Value} {us : List (Nat × List Value)} {ps : List (Nat × List Int)} {j : Nat} (h : RPart w wr v us ps j) {p : Nat × List Int} (hp : ps[j]? = some p) {g : Nat} {ut : List Value} (hg : w3.heap[g]? = some (bt p.2 ut)) (hB : Below wr.heap.size wr w3) (hT : Turns (fun i => v.ownBlock = some i) w3 w4)
    (hr : w4.ownsRow w.heap.size 69 2 v' (j + 1) (rpc (ps.take j) us ++ [.int .i64 p.1, rv (g, ut)])) : RPart w w4 v' (us ++ [(g, ut)]) ps (j + 1) := by
  have hr3 := own_turns h.row (Below.turns hB (fun _ => False)) (fun _ _ => id)
  refine ⟨by rw [rpc_take ps us j p (g, ut) h.len hp]; exact hr, by simp [h.len], fun t q u h1 h2 => ?_⟩
  by_cases ht : t < us.length
  · rw [List.getElem?_append_left ht] at h2
    have x := h.dat t q u h1 h2
    have x3 := (hB.block u.1 (heap_lt x)).trans x
    exact (hT.block u.1 (heap_lt x3) (fun e => own_ne2 hr3 x3 (by decide) e)).trans x3
  · rw [List.getElem?_append_right (by omega)] at h2
    have h0 : t - us.length = 0 := by
      have := (List.getElem?_eq_some_iff.1 h2).1
      simp at this; omega
    rw [h0] at h2
    simp at h2
    subst h2
    obtain rfl : t = j := by have := h.len; omega
    rw [hp] at h1
    obtain rfl := Option.some.inj h1
    exact (hT.block g (heap_lt hg) (fun e => own_ne2 hr3 hg (by decide) e)).trans hg
theorem RPart.done {w wr : World} {ao : Option Addr} {c L : Nat} {us : List (Nat × List Value)} {ps : List (Nat × List Int)} (h : RPart w wr (.slice ao L c) us ps L) (hL : ps.length = L) (hd : ∀ p ∈ ps, p.2.length = 512) : PRead wr ao L ps := by
  refine ⟨hL, fun j p hp => ?_⟩
  have hj := (List.getElem?_eq_some_iff.1 hp).1
  obtain ⟨u, hu⟩ : ∃ u, us[j]? = some u := ⟨_, List.getElem?_eq_getElem (by rw [h.len]; omega)⟩
  have e : ps.take L = ps := List.take_of_length_le (by omega)
  have hrow := h.row
  rw [e] at hrow
  obtain ⟨e1, e2⟩ := rpc_at _ _ j p _ hp hu
  rcases hrow.2 with ⟨_, h0⟩ | ⟨pg, cap, cur, hv', _, hb, _⟩
  · omega
  · cases hv'
    refine ⟨pg, _, 512, 512 + u.2.length, rfl, ?_, ?_, Lies.bt (h.dat j p _ hp hu) (hd p (List.mem_of_getElem? hp)) (Nat.le_add_right _ _), by omega⟩
    · rw [hrow.cellAt (j * 2) (by omega)]; exact e1
    · rw [hrow.cellAt (j * 2 + 1) (by omega)]; exact e2

set_option maxHeartbeats 4000000 in
theorem refPending_any {w : World} {rb : Nat} {S : DevS} {k : Nat} {R : Nat → Prop} (h : RDev w rb S k R) (hN : S.pend.length ≤ 1099511627776) :
    Calls Try.prog 29 #[.pointer (some ⟨rb, 0, none⟩)] w fun e w' => (∃ ao c, e = .returned (.slice ao S.pend.length c) ∧ PRead w' ao S.pend.length S.pend) ∧ Below w.heap.size w w' := by
  obtain ⟨gl, tl, pv, vs, h, f, hl⟩ := h
  obtain ⟨i0, hi, hz0, hz1, hz2⟩ := info_parts Try.info5
  obtain ⟨i1, hi', hy0, hy1, hy2⟩ := info_parts Try.info69
  obtain ⟨pa, pcp, hpv⟩ := row_slice h.row
  obtain ⟨L, hL⟩ : ∃ L, S.pend.length = L := ⟨_, rfl⟩
  rw [hL] at hpv hN ⊢
  have hLi : (L : Int) ≤ 1099511627776 := by omega
  have HL : Hid (S.pend.length = L) := hL
  clear hL
  subst hpv
  have c1 := h.cells.2.1
  have hrl := heap_lt h.blk
  go_enter Try.func29, Try.ntmps29
  go_wp2_with fail
  go_loopw [3, 4] (fun v i wr => ∃ (j : Nat) (us : List (Nat × List Value)), j ≤ L ∧ i = .int .i64 j ∧ RPart w wr v us S.pend j ∧ Below w.heap.size w wr) (fun _ i _ => L - (intOf i).toNat)
  case atStart => exact ⟨0, [], Nat.zero_le _, rfl, ⟨World.ownsRow_nil _ _ _ _, rfl, (fun t p u _ h => by simp at h)⟩, Below.refl _ _⟩
  case round =>
    obtain ⟨j, us, hj, rfl, hP, hB⟩ := hrel
    have d1 := (hB.cell hrl).trans c1
    have hX := h.below hB
    obtain ⟨la, lc, rfl⟩ := row_slice hP.row
    by_cases hlt : j < L
    · obtain ⟨pg, v, p, rfl, hp, hg, hpk, hpl, hpy, x0, x1, hgb, hvg⟩ := hX.pending (j := j) (by rw [HL.out]; exact hlt)
      have hji : (j : Int) < L := by omega
      have HP : Hid (RPart w wr (.slice la j lc) us S.pend j) := hP
      have HPP : Hid (S.pend[j]? = some p) := hp
      have hrow := hP.row
      obtain ⟨pb, pd⟩ := p
      obtain ⟨g, vt⟩ := v
      simp only at hpk hpl hpy x0 x1 hgb hvg
      have hLg : Lies wr (some ⟨g, 0, none⟩) 512 (512 + vt.length) pd := Lies.bt hgb hpl (by omega)
      have hcells : ∀ j u, (pd.map (Value.int .u8))[j]? = some u → wr.drew.cell? ((⟨g, 0, none⟩ : Addr).add j) = some u := hLg.hcells _ rfl
      have hplt := World.block_lt_of_cell? wr _ x0
      have hrlr := Nat.lt_of_lt_of_le hrl hB.size
      have hsB := hB.size
      have npg : pg < w.heap.size := by
        rcases h.row.2 with ⟨q, _⟩ | ⟨g', _, _, q, _, hh, _⟩
        · cases q
        · cases q; exact heap_lt hh
      have hrb : rb < w.heap.size := hrl
      have hge : ∀ b, (Value.slice la j lc).ownBlock = some b → w.heap.size ≤ b := fun b e => (hrow.lt b e).1
      clear hp hg hgb hLg hP hX
      go_wp2_with fail
      go_region_held_law (fun w' => w'.cell? ⟨rb, 1, none⟩ = some (.slice (some ⟨pg, 0, none⟩) L pcp) ∧ w'.cell? ⟨pg, j * 2, none⟩ = some (.int .i64 pb) ∧ w'.cell? ⟨pg, j * 2 + 1, none⟩ = some (.slice (some ⟨g, 0, none⟩) 512 (512 + vt.length)))
        (first | exact ⟨d1, x0, x1⟩ | exact ⟨y1, y2, y3⟩ | exact ⟨z1 _, z2 _, z3 _⟩ | exact ⟨q1, q2, q3⟩)
        (first
          | (refine step_append_lies _ rfl (.const (.slice none 0 0)) (.tmp 30) 33 rfl wr.heap.size 5 i0 (.int .u8 0) 1 1 Try.underlying33 hi hz0 hz1 hz2 rfl (by decide) (.slice none 0 0) 0 [] rfl (World.ownsRow_nil _ _ _ _) ⟨g, 0, none⟩ 512 (512 + vt.length) (pd.map (Value.int .u8)) rfl (by simp [hpl]) hcells (ints_oneCell _ _) (by decide) (by decide) (by decide) (by simp) wr.heap.size rfl ?_; intro g3 cap w3 ho3 hg3 hat3 hlt3; have hB3 : Below wr.heap.size wr w3 := ⟨hg3.os, hg3.tape, hg3.output, hg3.size, fun i hi => hg3.block i hi (by simp [Value.ownBlock])⟩; have y1 : w3.cell? ⟨rb, 1, none⟩ = some (.slice (some ⟨pg, 0, none⟩) L pcp) := (hB3.cell hrlr).trans d1; have y2 : w3.cell? ⟨pg, j * 2, none⟩ = some (.int .i64 pb) := (hB3.cell hplt).trans x0; have y3 : w3.cell? ⟨pg, j * 2 + 1, none⟩ = some (.slice (some ⟨g, 0, none⟩) 512 (512 + vt.length)) := (hB3.cell hplt).trans x1; have hB4 : ∀ o, Below wr.heap.size wr (w3.alloc o) := fun o => hB3.alloc hB3.size o; have z1 : ∀ o, (w3.alloc o).cell? ⟨rb, 1, none⟩ = some (.slice (some ⟨pg, 0, none⟩) L pcp) := fun o => ((hB4 o).cell hrlr).trans d1; have z2 : ∀ o, (w3.alloc o).cell? ⟨pg, j * 2, none⟩ = some (.int .i64 pb) := fun o => ((hB4 o).cell hplt).trans x0; have z3 : ∀ o, (w3.alloc o).cell? ⟨pg, j * 2 + 1, none⟩ = some (.slice (some ⟨g, 0, none⟩) 512 (512 + vt.length)) := fun o => ((hB4 o).cell hplt).trans x1; have hrow3 := own_turns hrow (Below.turns hB3 (fun _ => False)) (fun _ _ => id))
          | (refine step_append_lies _ rfl (.tmp 14) (.tmp 33) 64 rfl w.heap.size 69 i1 (.agg #[.int .i64 0, .slice none 0 0]) 2 32 Try.underlying64 hi' hy0 hy1 hy2 rfl (by decide) _ j _ rfl (hrow3.alloc _) ⟨w3.heap.size, 0, none⟩ 1 1 [.int .i64 pb, .slice (some ⟨g3, 0, none⟩) 512 cap] rfl rfl (cell_two_new _ _ _ _) (by intro u hu; simp at hu; rcases hu with rfl | rfl <;> rfl) (by decide) (by unfold maxLen; omega) (by omega) (by have := hB3.size; simp; omega) _ rfl ?_; intro gC cC w4 ho4 hg4 hat4 hlt4; have hT4 := (Turns.alloc _ w3 _).trans (Turns.grown (F := fun i => (Value.slice la j lc).ownBlock = some i) hg4 (fun b hb => hb)) (fun _ _ h => h); have hs3 := hB3.size; have q1 : w4.cell? ⟨rb, 1, none⟩ = some (.slice (some ⟨pg, 0, none⟩) L pcp) := (World.cell?_of_block (hT4.block rb (by omega) (fun e => by have := hge rb e; omega))).trans y1; have q2 : w4.cell? ⟨pg, j * 2, none⟩ = some (.int .i64 pb) := (World.cell?_of_block (hT4.block pg (by omega) (fun e => by have := hge pg e; omega))).trans y2; have q3 : w4.cell? ⟨pg, j * 2 + 1, none⟩ = some (.slice (some ⟨g, 0, none⟩) 512 (512 + vt.length)) := (World.cell?_of_block (hT4.block pg (by omega) (fun e => by have := hge pg e; omega))).trans y3))
      rw [Nat.zero_add, List.nil_append] at ho3
      obtain ⟨g', ut, r1, r2, r3⟩ := own_bt ho3 (by omega)
      obtain ⟨rfl, rfl⟩ : g3 = g' ∧ cap = 512 + ut.length := by cases r1; exact ⟨rfl, rfl⟩
      have hPN := HP.out.step HPP.out r3 hB3 hT4 ho4
      have hBN : Below w.heap.size w w4 := (hB.trans (hB3.mono hB.size)).trans (hT4.below (fun i e => hge i e) (by omega))
      have HPN : Hid _ := hPN
      clear hPN q1 q2 q3 y1 y2 y3 z1 z2 z3 ho3 ho4 hg3 hg4 r3 hrow3 hT4 hB3 hB4 hcells hrow hat3 hat4 d1 x0 x1 hge
      go_wp2
      go_roundw
      case rel => exact ⟨j + 1, us ++ [(g3, ut)], by omega, by go_num, HPN.out, hBN⟩
      case measure => simp [intOf]; omega
    · obtain rfl : j = L := by omega
      have hPR := hP.done HL.out (fun p hp => (h.good.pend p hp).2.1)
      clear hP hX
      go_wp2
      go_ret
      exact ⟨⟨la, lc, rfl, hPR⟩, hB⟩
end Go.Proofs.Ytejfbjjhnhlagaa
