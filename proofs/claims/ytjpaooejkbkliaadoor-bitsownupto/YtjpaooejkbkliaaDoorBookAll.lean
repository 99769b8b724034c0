/- Book.all by its contract, at three lists. -/
import Derived.Test.YtjpaooejkbkliaaDoorKeep
import Derived.Test.YtjpaooejkbkliaaDoorHead
namespace Go.Proofs.YtjpaooejkbkliaaDoor
open Go.RowKit
set_option maxRecDepth 100000

/-- A list of one's own stays, where the book takes in another one. -/
theorem own_apart_keep {w w' : World} {base n c : Nat} {ao : Option Addr} {xs : List Value} {B : Nat → Prop} {ob : Option Nat} (h : w.ownsRow base 5 1 (.slice ao n c) n xs) (hB : ∀ b, (Value.slice ao n c).ownBlock = some b → ¬ B b ∧ ob ≠ some b)
    (hk : ∀ k, k < w.heap.size → ¬ B k → ob ≠ some k → w'.heap[k]? = w.heap[k]?) : w'.ownsRow base 5 1 (.slice ao n c) n xs := by
  obtain ⟨h1, h2⟩ := h
  refine ⟨h1, ?_⟩
  rcases h2 with h2 | ⟨g, cap, cur, hv, hg, hh, r⟩
  · exact Or.inl h2
  · have hb := hB g (by rw [hv]; rfl)
    exact Or.inr ⟨g, cap, cur, hv, hg, (hk g (lt_of_block hh) hb.1 hb.2).trans hh, r⟩

/-- Old blocks that are not B's and not one of these are as they were. -/
structure FrO (B : Nat → Prop) (obs : List (Option Nat)) (w w' : World) : Prop where
  os : w'.os = w.os
  tape : w'.tape = w.tape
  output : w'.output = w.output
  size : w.heap.size ≤ w'.heap.size
  block : ∀ k, k < w.heap.size → ¬ B k → some k ∉ obs → w'.heap[k]? = w.heap[k]?

theorem keep_fr (base bk i n cl : Nat) (B : Nat → Prop) (es : List Ent) (al : Option Addr) (xs : List Int) (w : World) (hbase : base ≤ w.heap.size) (hB : Bk w base bk B es) (hes : es.length = 3 * i) (hi : i ≤ 100000000) (hn : n ≤ 1000000000)
    (hown : w.ownsRow base 5 1 (.slice al n cl) n (xs.map (Value.int .u8))) (hnB : ∀ b, (Value.slice al n cl).ownBlock = some b → ¬ B b) :
    Calls Tryd.prog 55 #[.pointer (some ⟨bk, 0, none⟩), .slice al n cl] w fun e w' => e = .returned (.tuple #[]) ∧ ∃ e1 e2, Bk w' base bk (fun k => B k ∨ (Value.slice al n cl).ownBlock = some k ∨ w.heap.size ≤ k) (es ++ [⟨al, n, cl⟩, e1, e2]) ∧ e1.len = n + 1 ∧ e2.len = n + 92 ∧ FrO B [(Value.slice al n cl).ownBlock] w w' := by
  refine (keep_any base bk i n cl B es al xs w hbase hB hes hi hn hown hnB).mono ?_
  rintro e w' ⟨rfl, e1, e2, h, g1, g2, h1, h2, h3, h4, h5⟩
  exact ⟨rfl, e1, e2, h, g1, g2, h1, h2, h3, h4, fun k hk hb ho => h5 k hk hb (fun h => ho (by simp [h]))⟩

theorem Bk.weaken {w : World} {base bk : Nat} {B B' : Nat → Prop} {es : List Ent} (h : Bk w base bk B es) (hb : ∀ k, k < w.heap.size → B k → B' k) : Bk w base bk B' es := by
  obtain ⟨⟨vL, vN, hbox, hL, hN, hBL, hBN⟩, hbk, hl, hm⟩ := h
  exact ⟨⟨vL, vN, hbox, hL, hN, fun k hk => hb k (hL.lt k hk).2 (hBL k hk), fun k hk => hb k (hN.lt k hk).2 (hBN k hk)⟩, ⟨hbk.1, hb _ (lt_of_block hbox) hbk.2⟩, hl, fun e he ad had => by
    obtain ⟨x1, x2, cs, x3⟩ := hm e he ad had
    exact ⟨hb _ (lt_of_block x3) x1, x2, cs, x3⟩⟩

theorem own_fro {w w' : World} {base n c : Nat} {ao : Option Addr} {xs : List Value} {B : Nat → Prop} {obs : List (Option Nat)} (h : w.ownsRow base 5 1 (.slice ao n c) n xs) (hF : FrO B obs w w') (hB : ∀ b, (Value.slice ao n c).ownBlock = some b → ¬ B b ∧ some b ∉ obs) : w'.ownsRow base 5 1 (.slice ao n c) n xs := by
  obtain ⟨h1, h2⟩ := h
  refine ⟨h1, ?_⟩
  rcases h2 with h2 | ⟨g, cap, cur, hv, hg, hh, r⟩
  · exact Or.inl h2
  · have hb := hB g (by rw [hv]; rfl)
    exact Or.inr ⟨g, cap, cur, hv, hg, (hF.block g (lt_of_block hh) hb.1 hb.2).trans hh, r⟩
theorem own_type {w : World} {base n c q : Nat} {ao : Option Addr} {xs cs : List Value} {t : Nat} (h : w.ownsRow base 5 1 (.slice ao n c) n xs) (hq : w.heap[q]? = some (.cells cs.toArray t)) (ht : t ≠ 5) : (Value.slice ao n c).ownBlock ≠ some q := by
  intro he
  rcases h.2 with ⟨h, _⟩ | ⟨g, cap, cur, h, _, hh, _⟩
  · cases h; cases he
  · cases h; cases he
    rw [hh] at hq
    simp at hq
    exact ht hq.2.symm

set_option maxHeartbeats 1000000 in
theorem all_3 (base bk i n c0 c1 c2 cw q : Nat) (B : Nat → Prop) (es : List Ent) (a0 a1 a2 aw : Option Addr) (L : List Int) (w : World) (hbase : base ≤ w.heap.size) (hB : Bk w base bk B es) (hes : es.length = 3 * i) (hi : i + 3 ≤ 100000000) (hn : n ≤ 1000000000)
    (o0 : w.ownsRow base 5 1 (.slice a0 n c0) n (L.map (Value.int .u8))) (o1 : w.ownsRow base 5 1 (.slice a1 n c1) n (L.map (Value.int .u8))) (o2 : w.ownsRow base 5 1 (.slice a2 n c2) n (L.map (Value.int .u8))) (ow : w.ownsRow base 5 1 (.slice aw n cw) n (L.map (Value.int .u8)))
    (hq : w.heap[q]? = some (.cells #[.slice a0 n c0, .slice a1 n c1, .slice a2 n c2] 24)) (hqB : ¬ B q)
    (n0 : ∀ b, (Value.slice a0 n c0).ownBlock = some b → ¬ B b) (n1 : ∀ b, (Value.slice a1 n c1).ownBlock = some b → ¬ B b ∧ (Value.slice a0 n c0).ownBlock ≠ some b)
    (n2 : ∀ b, (Value.slice a2 n c2).ownBlock = some b → ¬ B b ∧ (Value.slice a0 n c0).ownBlock ≠ some b ∧ (Value.slice a1 n c1).ownBlock ≠ some b)
    (nw : ∀ b, (Value.slice aw n cw).ownBlock = some b → ¬ B b ∧ (Value.slice a0 n c0).ownBlock ≠ some b ∧ (Value.slice a1 n c1).ownBlock ≠ some b ∧ (Value.slice a2 n c2).ownBlock ≠ some b) :
    Calls Tryd.prog 33 #[.pointer (some ⟨bk, 0, none⟩), .slice (some ⟨q, 0, none⟩) 3 3, .slice aw n cw] w fun e w' => e = .returned (.bool true) ∧ ∃ es', es'.length = 9 ∧ (∀ e ∈ es', e.len ≤ n + 92) ∧
      Bk w' base bk (fun k => B k ∨ (Value.slice a0 n c0).ownBlock = some k ∨ (Value.slice a1 n c1).ownBlock = some k ∨ (Value.slice a2 n c2).ownBlock = some k ∨ w.heap.size ≤ k) (es ++ es') ∧
      FrO B [(Value.slice a0 n c0).ownBlock, (Value.slice a1 n c1).ownBlock, (Value.slice a2 n c2).ownBlock] w w' := by
  have t0 := own_type (cs := [.slice a0 n c0, .slice a1 n c1, .slice a2 n c2]) o0 hq (by decide)
  have t1 := own_type (cs := [.slice a0 n c0, .slice a1 n c1, .slice a2 n c2]) o1 hq (by decide)
  have k0 : w.cell? ⟨q, 0, none⟩ = some (.slice a0 n c0) := (cell_of_row w q 0 _ _ (0, 0) hq).trans rfl
  go_enter Tryd.func33, Tryd.ntmps33
  go_wp2_with fail
  refine wp_loop_rounds 4 ?_
  rw [rounds_succ]
  go_wp2_with fail
  refine (same_true a0 aw n c0 cw L _ (by omega) (Lies.owned o0) (Lies.owned ow)).mono ?_
  rintro e u1 ⟨rfl, hb1⟩
  have k0' := cell_later hb1 k0
  go_wp2_with fail
  refine (keep_fr base bk i n c0 B es a0 L u1 (Nat.le_trans hbase hb1.size) (hB.below hb1) hes (by omega) hn (own_later o0 hb1) n0).mono ?_
  rintro e u2 ⟨rfl, x1, x2, hB2, l1, l2, hF2⟩
  have s1 := hb1.size
  have s2 := hF2.size
  have hq1 := (hb1.block q (lt_of_block hq)).trans hq
  have hq2 := (hF2.block q (lt_of_block hq1) hqB (by simpa using fun h => t0 h.symm)).trans hq1
  have o12 := own_fro (own_later o1 hb1) hF2 (fun b hb => ⟨(n1 b hb).1, by simpa using fun h => (n1 b hb).2 h.symm⟩)
  have o22 := own_fro (own_later o2 hb1) hF2 (fun b hb => ⟨(n2 b hb).1, by simpa using fun h => (n2 b hb).2.1 h.symm⟩)
  have ow2 := own_fro (own_later ow hb1) hF2 (fun b hb => ⟨(nw b hb).1, by simpa using fun h => (nw b hb).2.1 h.symm⟩)
  have k1 : u2.cell? ⟨q, 1, none⟩ = some (.slice a1 n c1) := (cell_of_row u2 q 1 _ _ (0, 0) hq2).trans rfl
  clear k0 k0'
  go_wp2_with fail
  rw [rounds_succ]
  go_wp2_with fail
  refine (same_true a1 aw n c1 cw L _ (by omega) (Lies.owned o12) (Lies.owned ow2)).mono ?_
  rintro e u3 ⟨rfl, hb3⟩
  have k1' := cell_later hb3 k1
  have lt1 := fun b hb => ((own_later o1 hb1).lt b hb).2
  have lt2 := fun b hb => ((own_later o2 hb1).lt b hb).2
  have ltw := fun b hb => ((own_later ow hb1).lt b hb).2
  go_wp2_with fail
  refine (keep_fr base bk (i + 1) n c1 _ _ a1 L u3 (by have := hb3.size; omega) (hB2.below hb3) (by simp [hes]; omega) (by omega) hn (own_later o12 hb3) (fun b hb h => by
    rcases h with h | h | h
    · exact (n1 b hb).1 h
    · exact (n1 b hb).2 h
    · have := lt1 b hb; omega)).mono ?_
  rintro e u4 ⟨rfl, y1, y2, hB4, m1, m2, hF4⟩
  have s3 := hb3.size
  have s4 := hF4.size
  have hq3 := (hb3.block q (lt_of_block hq2)).trans hq2
  have hqs := lt_of_block hq1
  have hq4 := (hF4.block q (lt_of_block hq3) (fun h => by
    rcases h with h | h | h
    · exact hqB h
    · exact t0 h
    · omega) (by simpa using fun h => t1 h.symm)).trans hq3
  have o24 := own_fro (own_later o22 hb3) hF4 (fun b hb => ⟨fun h => by
    rcases h with h | h | h
    · exact (n2 b hb).1 h
    · exact (n2 b hb).2.1 h
    · have := lt2 b hb; omega, by simpa using fun h => (n2 b hb).2.2 h.symm⟩)
  have ow4 := own_fro (own_later ow2 hb3) hF4 (fun b hb => ⟨fun h => by
    rcases h with h | h | h
    · exact (nw b hb).1 h
    · exact (nw b hb).2.1 h
    · have := ltw b hb; omega, by simpa using fun h => (nw b hb).2.2.1 h.symm⟩)
  have k2 : u4.cell? ⟨q, 2, none⟩ = some (.slice a2 n c2) := (cell_of_row u4 q 2 _ _ (0, 0) hq4).trans rfl
  clear k1 k1'
  go_wp2_with fail
  rw [rounds_succ]
  go_wp2_with fail
  refine (same_true a2 aw n c2 cw L _ (by omega) (Lies.owned o24) (Lies.owned ow4)).mono ?_
  rintro e u5 ⟨rfl, hb5⟩
  have k2' := cell_later hb5 k2
  go_wp2_with fail
  refine (keep_fr base bk (i + 2) n c2 _ _ a2 L u5 (by have := hb5.size; omega) (hB4.below hb5) (by simp [hes]; omega) (by omega) hn (own_later o24 hb5) (fun b hb h => by
    have := lt2 b hb
    rcases h with (h | h | h) | h | h
    · exact (n2 b hb).1 h
    · exact (n2 b hb).2.1 h
    · omega
    · exact (n2 b hb).2.2 h
    · omega)).mono ?_
  rintro e u6 ⟨rfl, z1, z2, hB6, p1, p2, hF6⟩
  have s5 := hb5.size
  have s6 := hF6.size
  clear k2 k2'
  go_wp2_with fail
  rw [rounds_succ]
  go_wp2
  go_ret
  refine ⟨rfl, [⟨a0, n, c0⟩, x1, x2, ⟨a1, n, c1⟩, y1, y2, ⟨a2, n, c2⟩, z1, z2], rfl, ?_, ?_, ?_⟩
  · intro e he
    simp at he
    rcases he with rfl | rfl | rfl | rfl | rfl | rfl | rfl | rfl | rfl <;> (try simp only) <;> omega
  · have h := hB6.weaken (B' := fun k => B k ∨ (Value.slice a0 n c0).ownBlock = some k ∨ (Value.slice a1 n c1).ownBlock = some k ∨ (Value.slice a2 n c2).ownBlock = some k ∨ w.heap.size ≤ k) (fun k _ h => by
      rcases h with ((h | h | h) | h | h) | h | h
      · exact .inl h
      · exact .inr (.inl h)
      · exact .inr (.inr (.inr (.inr (by omega))))
      · exact .inr (.inr (.inl h))
      · exact .inr (.inr (.inr (.inr (by omega))))
      · exact .inr (.inr (.inr (.inl h)))
      · exact .inr (.inr (.inr (.inr (by omega)))))
    simpa using h
  · refine ⟨?_, ?_, ?_, by omega, fun k hk hb ho => ?_⟩
    · rw [hF6.os, hb5.os, hF4.os, hb3.os, hF2.os, hb1.os]
    · rw [hF6.tape, hb5.tape, hF4.tape, hb3.tape, hF2.tape, hb1.tape]
    · rw [hF6.output, hb5.output, hF4.output, hb3.output, hF2.output, hb1.output]
    · simp only [List.mem_cons, List.not_mem_nil, or_false, not_or] at ho
      rw [hF6.block k (by omega) (fun h => by
        rcases h with (h | h | h) | h | h
        · exact hb h
        · exact ho.1 h.symm
        · omega
        · exact ho.2.1 h.symm
        · omega) (by simpa using ho.2.2), hb5.block k (by omega), hF4.block k (by omega) (fun h => by
        rcases h with h | h | h
        · exact hb h
        · exact ho.1 h.symm
        · omega) (by simpa using ho.2.1), hb3.block k (by omega), hF2.block k (by omega) hb (by simpa using ho.1), hb1.block k hk]
end Go.Proofs.YtjpaooejkbkliaaDoor
