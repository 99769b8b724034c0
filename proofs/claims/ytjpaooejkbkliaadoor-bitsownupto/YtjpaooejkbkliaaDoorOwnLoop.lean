/- BitsOwn: the walk, over the contract of Book.readers. -/
import Derived.Test.YtjpaooejkbkliaaDoorBookAll
import Derived.Test.YtjpaooejkbkliaaDoorWhole
import Derived.Test.YtjpaooejkbkliaaDoorPutsMid
namespace Go.Proofs.YtjpaooejkbkliaaDoor
open Go.RowKit
set_option maxRecDepth 100000

/-- What Book.readers is to do: it answers true, the book has grown, nothing old has turned. -/
def Rds (w : World) (base : Nat) (vi : Value) : Prop := ∀ (W : World) (bk i : Nat) (B : Nat → Prop) (es : List Ent), Below base w W → Bk W base bk B es → (∀ b, B b → base ≤ b) → es.length = 3 * i → i ≤ 60000000 → (∀ e ∈ es, e.len ≤ 1000000100) →
  Calls Tryd.prog 34 #[.pointer (some ⟨bk, 0, none⟩), vi] W fun e w' => e = .returned (.bool true) ∧ ∃ es' B', Bk w' base bk B' es' ∧ es'.length ≤ 300000000 ∧ (∀ e ∈ es', e.len ≤ 1000000100) ∧ Below base W w'

theorem Bk.new (w : World) (base : Nat) (hb : base ≤ w.heap.size) : Bk (w.alloc (.cells #[.slice none 0 0, .slice none 0 0] 59)) base w.heap.size (fun k => base ≤ k ∧ k < (w.alloc (.cells #[.slice none 0 0, .slice none 0 0] 59)).heap.size) [] :=
  ⟨⟨.slice none 0 0, .slice none 0 0, heap_alloc_new w _, World.ownsRow_nil _ _ _ _, World.ownsRow_nil _ _ _ _, (fun _ h => by cases h), (fun _ h => by cases h)⟩, ⟨hb, hb, by simp⟩, (fun i h => by simp at h), (fun e h => by cases h)⟩

set_option maxHeartbeats 2000000 in
theorem own_pos (a0 : Option Addr) (lb cb : Nat) (B0 : List Int) (ib io len cap : Nat) (xs : List Itm) (er : Nat → Addr) (w : World) (hE : Errs w er) (hLB : Lies w a0 lb cb B0) (hl : xs.length = len)
    (hc : ∀ i (h : i < len) j v, (xs[i]'(by omega)).cells[j]? = some v → w.cell? ⟨ib, io + i * 4 + j, none⟩ = some v) (hcame : ∀ x ∈ xs, Came w x) (htot : lb + total xs ≤ 134217728) (hR : Rds w w.heap.size (.slice (some ⟨ib, io, none⟩) len cap)) :
    Calls Tryd.prog 8 #[.slice a0 lb cb, .slice (some ⟨ib, io, none⟩) len cap] w fun e w' => e = .returned (.bool true) ∧ Below w.heap.size w w' := by
  have hlen8 := len_total xs
  have hleni : (len : Int) ≤ 134217728 := by omega
  go_enter Tryd.func8, Tryd.ntmps8
  go_wp2_with fail
  refine (head_any er w hE).mono ?_
  rintro e w1 ⟨rfl, hb1⟩
  have hbk0 := Bk.new w1 w.heap.size hb1.size
  have hb1a := hb1.alloc hb1.size (.cells #[.slice none 0 0, .slice none 0 0] 59)
  go_wp2_with fail
  go_loopw [5, 7] (fun ok i wr => ∃ (k : Nat) (es : List Ent), ok = .bool true ∧ k ≤ len ∧ i = .int .i64 k ∧ es.length = 9 * k ∧ (∀ e ∈ es, e.len ≤ 1000000100) ∧ Bk wr w.heap.size w1.heap.size (fun b => w.heap.size ≤ b ∧ b < wr.heap.size) es ∧ Below w.heap.size w wr) (fun _ i _ => len - (intOf i).toNat)
  case atStart => exact ⟨0, [], rfl, Nat.zero_le _, rfl, rfl, (fun e h => by cases h), hbk0, hb1a⟩
  case round =>
    clear hbk0 hb1a
    obtain ⟨k, es, rfl, hk, rfl, hes, hen, hB, hb⟩ := hrel
    by_cases hlk : k < len
    · obtain ⟨x, hx⟩ : ∃ x, x = xs[k]'(by omega) := ⟨_, rfl⟩
      have hxin : x ∈ xs := by rw [hx]; exact List.getElem_mem _
      have hcx := (hcame x hxin).below hb (Nat.le_refl _)
      have hit : ∀ j v, x.cells[j]? = some v → wr.cell? ⟨ib, io + k * 4 + j, none⟩ = some v := fun j v hv => cell_later hb (hc k hlk j v (by rw [← hx]; exact hv))
      have hT := lenTo_total xs (fun y hy => (hcame y hy).lies.hlen) k (by omega)
      rw [← hx] at hT
      have hLBr := hLB.below hb (Nat.le_refl _)
      have hpl := putN_le x.K x.dl
      clear hx hc hcame hR
      have i0 := hit 0 _ rfl
      have i1 := hit 1 _ rfl
      have i2 := hit 2 _ rfl
      have i3 := hit 3 _ rfl
      simp only [Nat.add_zero] at i0
      go_wp2_with fail
      refine (put_any a0 lb cb B0 x.K x.X x.S x.bo x.dl x.dc x.ds _ hcx.s0 hcx.s1 (by omega) hLBr hcx.lies hcx.small).mono ?_
      rintro e u1 ⟨v0, c0, rfl, o0, h1⟩
      have j0 := cell_later h1 i0
      have j1 := cell_later h1 i1
      have j2 := cell_later h1 i2
      have j3 := cell_later h1 i3
      have hcx1 := hcx.below h1 (Nat.le_refl _)
      have hLB1 := hLBr.below h1 (Nat.le_refl _)
      clear i0 i1 i2 i3
      go_wp2_with fail
      refine (put_any a0 lb cb B0 x.K x.X x.S x.bo x.dl x.dc x.ds _ hcx.s0 hcx.s1 (by omega) hLB1 hcx1.lies hcx.small).mono ?_
      rintro e u2 ⟨v1, c1, rfl, o1, h2⟩
      have i0 := cell_later h2 j0
      have i1 := cell_later h2 j1
      have i2 := cell_later h2 j2
      have i3 := cell_later h2 j3
      have hcx2 := hcx1.below h2 (Nat.le_refl _)
      have hLB2 := hLB1.below h2 (Nat.le_refl _)
      clear j0 j1 j2 j3
      go_wp2_with fail
      refine (put_any a0 lb cb B0 x.K x.X x.S x.bo x.dl x.dc x.ds _ hcx.s0 hcx.s1 (by omega) hLB2 hcx2.lies hcx.small).mono ?_
      rintro e u3 ⟨v2, c2, rfl, o2, h3⟩
      have hq3 := heap_alloc_new u3 (.cells #[.slice v0 (lb + putN x.K x.dl) c0, .slice v1 (lb + putN x.K x.dl) c1, .slice v2 (lb + putN x.K x.dl) c2] 24)
      have h3a : Below u3.heap.size u3 (u3.alloc (.cells #[.slice v0 (lb + putN x.K x.dl) c0, .slice v1 (lb + putN x.K x.dl) c1, .slice v2 (lb + putN x.K x.dl) c2] 24)) := (Below.refl _ _).alloc (Nat.le_refl _) _
      have hsa : (u3.alloc (.cells #[.slice v0 (lb + putN x.K x.dl) c0, .slice v1 (lb + putN x.K x.dl) c1, .slice v2 (lb + putN x.K x.dl) c2] 24)).heap.size = u3.heap.size + 1 := by simp
      have j0 := cell_later h3a (cell_later h3 i0)
      have j1 := cell_later h3a (cell_later h3 i1)
      have j2 := cell_later h3a (cell_later h3 i2)
      have j3 := cell_later h3a (cell_later h3 i3)
      have hcx3 := (hcx2.below h3 (Nat.le_refl _)).below h3a (Nat.le_refl _)
      have hLB3 := (hLB2.below h3 (Nat.le_refl _)).below h3a (Nat.le_refl _)
      clear i0 i1 i2 i3
      go_wp2_with fail
      generalize hNN : lb + putN x.K x.dl = N at *
      generalize u3.alloc (.cells #[.slice v0 N c0, .slice v1 N c1, .slice v2 N c2] 24) = ua at *
      refine (want_any a0 lb cb B0 x.K x.X x.S x.bo x.dl x.dc x.ds _ hcx.s0 hcx.s1 (by omega) hLB3 hcx3.lies hcx.small).mono ?_
      rw [hNN]
      rintro e u4 ⟨v3, c3, rfl, o3, h4⟩
      have s0 := hb.size
      have s1 := h1.size
      have s2 := h2.size
      have s3 := h3.size
      have s4 := h4.size
      have r0 := fun b hb => o0.lt b hb
      have r1 := fun b hb => o1.lt b hb
      have r2 := fun b hb => o2.lt b hb
      have r3 := fun b hb => o3.lt b hb
      have h34 : Below u3.heap.size u3 u4 := h3a.trans (h4.mono (by omega))
      have h24 : Below u2.heap.size u2 u4 := h3.trans (h34.mono s3)
      have h14 : Below u1.heap.size u1 u4 := h2.trans (h24.mono s2)
      have h04 : Below wr.heap.size wr u4 := h1.trans (h14.mono s1)
      have p0 := ownsRow_mono (own_later o0 h14) s0
      have p1 := ownsRow_mono (own_later o1 h24) (show w.heap.size ≤ u1.heap.size by omega)
      have p2 := ownsRow_mono (own_later o2 h34) (show w.heap.size ≤ u2.heap.size by omega)
      have p3 := ownsRow_mono o3 (show w.heap.size ≤ ua.heap.size by omega)
      have hq4 := (h4.block u3.heap.size (by omega)).trans hq3
      clear j0 j1 j2 j3 hcx1 hcx2 hcx3 hLB1 hLB2 hLB3 hit o0 o1 o2 o3
      go_wp2_with fail
      refine (all_3 w.heap.size w1.heap.size (3 * k) N c0 c1 c2 c3 u3.heap.size (fun b => w.heap.size ≤ b ∧ b < wr.heap.size) es v0 v1 v2 v3 (B0 ++ putL x.K x.X x.S x.ds) u4 (by omega) (hB.below h04) (by omega) (by omega) (by omega) p0 p1 p2 p3 hq4 (fun h => by have := h.2; omega)
        (fun b hb h => by have := r0 b hb; omega) (fun b hb => ⟨fun h => by have := r1 b hb; omega, fun h => by have := r1 b hb; have := r0 b h; omega⟩)
        (fun b hb => ⟨fun h => by have := r2 b hb; omega, fun h => by have := r2 b hb; have := r0 b h; omega, fun h => by have := r2 b hb; have := r1 b h; omega⟩)
        (fun b hb => ⟨fun h => by have := r3 b hb; omega, fun h => by have := r3 b hb; have := r0 b h; omega, fun h => by have := r3 b hb; have := r1 b h; omega, fun h => by have := r3 b hb; have := r2 b h; omega⟩)).mono ?_
      rintro e u5 ⟨rfl, es', hl9, hlen9, hB5, hF5⟩
      go_wp2
      have hB6 := hB5.weaken (B' := fun b => w.heap.size ≤ b ∧ b < u5.heap.size) (fun b hb h => ⟨by
        rcases h with h | h | h | h | h
        · exact h.1
        · have := r0 b h; omega
        · have := r1 b h; omega
        · have := r2 b h; omega
        · omega, hb⟩)
      have hb5 : Below w.heap.size u4 u5 := ⟨hF5.os, hF5.tape, hF5.output, hF5.size, fun b hb => hF5.block b (by omega) (fun h => by have := h.1; omega) (fun h => by
        simp only [List.mem_cons, List.not_mem_nil, or_false] at h
        rcases h with h | h | h
        · have := r0 b h.symm; omega
        · have := r1 b h.symm; omega
        · have := r2 b h.symm; omega)⟩
      go_roundw
      case rel =>
        refine ⟨k + 1, es ++ es', rfl, by omega, by go_num, by simp [hes, hl9]; omega, fun e he => ?_, hB6, (hb.trans (h04.mono s0)).trans hb5⟩
        rcases List.mem_append.1 he with h | h
        · exact hen e h
        · have := hlen9 e h; omega
      case measure => simp [intOf]; omega
    · go_wp2_with fail
      refine (hR wr _ (3 * k) _ es hb hB (fun b h => h.1) (by omega) (by omega) hen).mono ?_
      rintro e w2 ⟨rfl, es2, B2, hB2, hl2, hn2, hb2⟩
      go_wp2_with fail
      refine (whole_any _ _ _ es2 w2 hB2 hl2 hn2).mono ?_
      rintro e w3 ⟨rfl, hb3⟩
      go_wp2
      go_ret
      exact ⟨rfl, (hb.trans hb2).trans (hb3.mono (Nat.le_trans hb.size hb2.size))⟩
end Go.Proofs.YtjpaooejkbkliaaDoor
