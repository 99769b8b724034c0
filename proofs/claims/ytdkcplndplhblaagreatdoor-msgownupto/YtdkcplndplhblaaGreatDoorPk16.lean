/- SameRequest and SameReply of what is the same. -/
import Derived.Test.YtdkcplndplhblaaGreatDoorPk15
import Derived.Test.YtdkcplndplhblaaGreatDoorPk06
import Derived.Test.YtdkcplndplhblaaGreatDoorPk03
namespace Go.Proofs.YtdkcplndplhblaaGreatDoor
open Go.RowKit
set_option maxRecDepth 100000

theorem same_true (ao bo : Option Addr) (n m c1 c2 : Nat) (xs : List Int) (w : World) (hn : n ≤ 200000000000000) (hA : Lies w ao n c1 xs) (hB : Lies w bo m c2 xs) :
    Calls Tryz.prog 11 #[.slice ao n c1, .slice bo m c2] w fun e w' => e = .returned (.bool true) ∧ Below w.heap.size w w' := by
  have h1 := hA.hlen
  have h2 := hB.hlen
  obtain rfl : n = m := by omega
  refine (same_any ao bo n n c1 c2 xs xs w hn hA hB).mono ?_
  rintro e w' ⟨rfl, m, rfl⟩
  exact ⟨by simp, below_drewN (Below.refl _ _) m⟩

set_option maxHeartbeats 1000000 in
theorem sameEntries_refl (l : List Ent) (ao : Option Addr) (n c : Nat) (bo : Option Addr) (bc : Nat) (w : World) (hA : CLies w ao n c 3 (entCells l)) (hB : CLies w bo n bc 3 (entCells l)) (hl : l.length = n) (hn : n ≤ 200000000000000) :
    Calls Tryz.prog 47 #[.slice ao n c, .slice bo n bc] w fun e w' => e = .returned (.bool true) ∧ Below w.heap.size w w' := by
  have hni : (n : Int) ≤ 200000000000000 := by omega
  go_enter Tryz.func47, Tryz.ntmps47
  go_wp2
  go_loopw [5] (fun i wr => ∃ k : Nat, k ≤ n ∧ i = .int .i64 k ∧ Below w.heap.size w wr) (fun i _ => n - (intOf i).toNat)
  case atStart => exact ⟨0, Nat.zero_le _, rfl, Below.refl _ _⟩
  case round =>
    obtain ⟨k, hk, rfl, hb⟩ := hrel
    by_cases hlt : k < n
    · have hki : decide ((k : Int) < (n : Int)) = true := by simpa using hlt
      obtain ⟨b1, o1, rfl, _, p0, p1, p2⟩ := ents_at hA (show k < l.length by omega)
      obtain ⟨b2, o2, rfl, _, q0, q1, q2⟩ := ents_at hB (show k < l.length by omega)
      have p0 := cell_later hb p0 (Nat.le_refl _)
      have p1 := cell_later hb p1 (Nat.le_refl _)
      have p2 := cell_later hb p2 (Nat.le_refl _)
      have q0 := cell_later hb q0 (Nat.le_refl _)
      have q1 := cell_later hb q1 (Nat.le_refl _)
      have q2 := cell_later hb q2 (Nat.le_refl _)
      clear hA hB
      generalize l[k] = x at *
      obtain ⟨nm, id, kd⟩ := x
      simp only at p0 p1 p2 q0 q1 q2
      go_wp2
      go_quiet (fail)
      go_wp2
      go_roundw
      case rel => exact ⟨k + 1, by omega, by go_num, below_drewN hb _⟩
      case measure => simp [intOf]; omega
    · clear hA hB
      have hki : decide ((k : Int) < (n : Int)) = false := by simp; omega
      go_wp2
      go_ret
      exact ⟨rfl, hb⟩

set_option maxHeartbeats 2000000 in
theorem sameRequest_refl (r : Req) (ao : Option Addr) (n c : Nat) (bo : Option Addr) (m d : Nat) (w : World) (hn : n ≤ 200000000000000) (hA : Lies w ao n c r.data) (hB : Lies w bo m d r.data) :
    Calls Tryz.prog 29 #[rqV r ao n c, rqV r bo m d] w fun e w' => e = .returned (.bool true) ∧ Below w.heap.size w w' := by
  have hA0 := RqBox.new w r ao n c
  go_enter Tryz.func29, Tryz.ntmps29
  go_wp2_with fail
  refine (same_true ao bo n m c d r.data _ hn ((hA.boxed _).boxed _) ((hB.boxed _).boxed _)).mono ?_
  rintro e w1 ⟨rfl, hb1⟩
  have hA1 := RqBox.later (RqBox.later hA0 (newBox _ _) (Nat.le_refl _)) hb1 (Nat.le_refl _)
  have hB0 : RqBox w1 (w.heap.size + 1) r bo m d := by
    have q := RqBox.later (RqBox.new (w.alloc (.cells #[.int .i64 r.client, .int .i64 r.seq, .int .i64 r.ack, .int .i64 r.epoch, .int .i64 r.op, .int .i64 r.id, .int .i64 r.id2, .int .i64 r.off, .int .i64 r.len, .string r.path, .string r.name, .string r.name2, .slice ao n c] 24)) r bo m d) hb1 (Nat.le_refl _)
    rw [show (w.alloc (.cells #[.int .i64 r.client, .int .i64 r.seq, .int .i64 r.ack, .int .i64 r.epoch, .int .i64 r.op, .int .i64 r.id, .int .i64 r.id2, .int .i64 r.off, .int .i64 r.len, .string r.path, .string r.name, .string r.name2, .slice ao n c] 24)).heap.size = w.heap.size + 1 by simp] at q
    exact q
  have hq1 : Below w.heap.size w w1 := (box2 w _ _).trans (hb1.mono (by simp; omega))
  obtain ⟨a0, a1, a2, a3, a4, a5, a6, a7, a8, a9, a10, a11, a12⟩ := hA1
  obtain ⟨b0, b1, b2, b3, b4, b5, b6, b7, b8, b9, b10, b11, b12⟩ := hB0
  clear hA0 hb1 hA hB
  go_wp2
  go_ret
  exact ⟨rfl, hq1⟩

set_option maxHeartbeats 2000000 in
theorem sameReply_refl (r : Rep) (ao : Option Addr) (n c : Nat) (lo : Option Addr) (ln lc : Nat) (bo : Option Addr) (m d : Nat) (mo : Option Addr) (mc : Nat) (w : World) (hn : n ≤ 200000000000000) (hln : ln ≤ 200000000000000) (hA : Lies w ao n c r.data) (hB : Lies w bo m d r.data) (hC : CLies w lo ln lc 3 (entCells r.list)) (hD : CLies w mo ln mc 3 (entCells r.list)) (hl : r.list.length = ln) :
    Calls Tryz.prog 32 #[rpV r ao n c lo ln lc, rpV r bo m d mo ln mc] w fun e w' => e = .returned (.bool true) ∧ Below w.heap.size w w' := by
  have HL : Hid (r.list.length = ln) := hl
  clear hl
  have hA0 := RpBox.new w r ao n c lo ln lc
  go_enter Tryz.func32, Tryz.ntmps32
  go_wp2_with fail
  refine (same_true ao bo n m c d r.data _ hn ((hA.boxed _).boxed _) ((hB.boxed _).boxed _)).mono ?_
  rintro e w1 ⟨rfl, hb1⟩
  have hA1 := RpBox.later (RpBox.later hA0 (newBox _ _) (Nat.le_refl _)) hb1 (Nat.le_refl _)
  have hB1 : RpBox w1 (w.heap.size + 1) r bo m d mo ln mc := by
    have q := RpBox.later (RpBox.new (w.alloc (.cells #[.int .i64 r.client, .int .i64 r.seq, .int .i64 r.epoch, .int .i64 r.op, .int .i64 r.status, .int .i64 r.ai, .int .i64 r.ak, .int .i64 r.az, .int .i64 r.ac, .slice ao n c, .slice lo ln lc, .bool r.more] 30)) r bo m d mo ln mc) hb1 (Nat.le_refl _)
    rw [show (w.alloc (.cells #[.int .i64 r.client, .int .i64 r.seq, .int .i64 r.epoch, .int .i64 r.op, .int .i64 r.status, .int .i64 r.ai, .int .i64 r.ak, .int .i64 r.az, .int .i64 r.ac, .slice ao n c, .slice lo ln lc, .bool r.more] 30)).heap.size = w.heap.size + 1 by simp] at q
    exact q
  have hq1 : Below w.heap.size w w1 := (box2 w _ _).trans (hb1.mono (by simp; omega))
  have hC1 := hC.below hq1 (Nat.le_refl _)
  have hD1 := hD.below hq1 (Nat.le_refl _)
  have hA1' := hA1
  have hB1' := hB1
  obtain ⟨a0, a1, a2, a3, a4, a5, a6, a7, a8, a9, a10, a11⟩ := hA1
  obtain ⟨b0, b1, b2, b3, b4, b5, b6, b7, b8, b9, b10, b11⟩ := hB1
  clear hA0 hb1 hA hB hC hD
  go_wp2_with fail
  clear a0 a1 a2 a3 a4 a5 a6 a7 a8 a9 a10 a11 b0 b1 b2 b3 b4 b5 b6 b7 b8 b9 b10 b11
  refine (sameEntries_refl r.list lo ln lc mo mc _ hC1 hD1 HL.out hln).mono ?_
  rintro e w2 ⟨rfl, hb2⟩
  have hA2 := RpBox.later hA1' hb2 (Nat.le_refl _)
  have hB2 := RpBox.later hB1' hb2 (Nat.le_refl _)
  have hq2 := hq1.trans (hb2.mono hq1.size)
  have hA2' := hA2
  have hB2' := hB2
  obtain ⟨a0, a1, a2, a3, a4, a5, a6, a7, a8, a9, a10, a11⟩ := hA2
  obtain ⟨b0, b1, b2, b3, b4, b5, b6, b7, b8, b9, b10, b11⟩ := hB2
  clear hA1' hB1' hC1 hD1 hb2
  go_wp2_with fail
  clear a0 a1 a2 a3 a4 a5 a6 a7 a8 a9 a10 a11 b0 b1 b2 b3 b4 b5 b6 b7 b8 b9 b10 b11
  refine (sameAttr_any r.ai r.ak r.az r.ac r.ai r.ak r.az r.ac _).mono ?_
  rintro e w3 ⟨rfl, hb3⟩
  rw [show decide (r.ai = r.ai ∧ r.ak = r.ak ∧ r.az = r.az ∧ r.ac = r.ac) = true from by simp]
  have hA3 := RpBox.later hA2' hb3 (Nat.le_refl _)
  have hB3 := RpBox.later hB2' hb3 (Nat.le_refl _)
  have hq3 := hq2.trans (hb3.mono hq2.size)
  obtain ⟨a0, a1, a2, a3, a4, a5, a6, a7, a8, a9, a10, a11⟩ := hA3
  obtain ⟨b0, b1, b2, b3, b4, b5, b6, b7, b8, b9, b10, b11⟩ := hB3
  clear hA2' hB2' hb3
  go_wp2_with fail
  go_quiet (first | (go_at_call 76; refine (rnum_id _ _).mono ?_; rintro e w4 ⟨rfl, rfl⟩; exact ⟨rfl, _, rfl⟩))
  go_wp2
  go_ret
  exact ⟨by simp, below_drewN hq3 _⟩
end Go.Proofs.YtdkcplndplhblaaGreatDoor

/- Book.all by its contract, at two lists. -/
namespace Go.Proofs.YtdkcplndplhblaaGreatDoor
open Go.RowKit
set_option maxRecDepth 100000

/-- A list of one's own stays, where the book takes in another one. -/
theorem own_apart_keep {w w' : World} {base n c : Nat} {ao : Option Addr} {xs : List Value} {B : Nat → Prop} {ob : Option Nat} (h : w.ownsRow base 5 1 (.slice ao n c) n xs) (hB : ∀ b, (Value.slice ao n c).ownBlock = some b → ¬ B b ∧ ob ≠ some b)
    (hk : ∀ k, k < w.heap.size → ¬ B k → ob ≠ some k → w'.heap[k]? = w.heap[k]?) : w'.ownsRow base 5 1 (.slice ao n c) n xs := by
  obtain ⟨h1, h2⟩ := h
  refine ⟨h1, ?_⟩
  rcases h2 with h2 | ⟨g, cap, cur, hv, hg, hh, r⟩
  · exact Or.inl h2
  · have hb := hB g (by rw [hv]; rfl)
    exact Or.inr ⟨g, cap, cur, hv, hg, (hk g (lt_of_block hh) hb.1 hb.2).trans hh, r⟩

/-- Old blocks that are not B's and not one of these are as they were. -/
structure FrO (B : Nat → Prop) (obs : List (Option Nat)) (w w' : World) : Prop where
  os : w'.os = w.os
  tape : w'.tape = w.tape
  output : w'.output = w.output
  size : w.heap.size ≤ w'.heap.size
  block : ∀ k, k < w.heap.size → ¬ B k → some k ∉ obs → w'.heap[k]? = w.heap[k]?

theorem keep_fr (vE : Value) (base bk i n cl : Nat) (B : Nat → Prop) (es : List Bl) (al : Option Addr) (xs : List Int) (w : World) (hbase : base ≤ w.heap.size) (hB : Bk w base bk vE B es) (hes : es.length = 3 * i) (hi : i ≤ 100000000) (hn : n ≤ 1000000000)
    (hown : w.ownsRow base 5 1 (.slice al n cl) n (xs.map (Value.int .u8))) (hnB : ∀ b, (Value.slice al n cl).ownBlock = some b → ¬ B b) :
    Calls Tryz.prog 57 #[.pointer (some ⟨bk, 0, none⟩), .slice al n cl] w fun e w' => e = .returned (.tuple #[]) ∧ ∃ e1 e2, Bk w' base bk vE (fun k => B k ∨ (Value.slice al n cl).ownBlock = some k ∨ w.heap.size ≤ k) (es ++ [⟨al, n, cl⟩, e1, e2]) ∧ e1.len = n + 1 ∧ e2.len = n + 92 ∧ FrO B [(Value.slice al n cl).ownBlock] w w' := by
  refine (bkKeep_any vE base bk i n cl B es al xs w hbase hB hes hi hn hown hnB).mono ?_
  rintro e w' ⟨rfl, e1, e2, h, g1, g2, h1, h2, h3, h4, h5⟩
  exact ⟨rfl, e1, e2, h, g1, g2, h1, h2, h3, h4, fun k hk hb ho => h5 k hk hb (fun h => ho (by simp [h]))⟩

theorem Bk.weaken {w : World} {vE : Value} {base bk : Nat} {B B' : Nat → Prop} {es : List Bl} (h : Bk w base bk vE B es) (hb : ∀ k, k < w.heap.size → B k → B' k) : Bk w base bk vE B' es := by
  obtain ⟨⟨vL, vN, hbox, hL, hN, hBL, hBN⟩, hbk, hl, hm⟩ := h
  exact ⟨⟨vL, vN, hbox, hL, hN, fun k hk => hb k (hL.lt k hk).2 (hBL k hk), fun k hk => hb k (hN.lt k hk).2 (hBN k hk)⟩, ⟨hbk.1, hb _ (lt_of_block hbox) hbk.2⟩, hl, fun e he ad had => by
    obtain ⟨x1, x2, cs, x3⟩ := hm e he ad had
    exact ⟨hb _ (lt_of_block x3) x1, x2, cs, x3⟩⟩

theorem own_fro {w w' : World} {base n c : Nat} {ao : Option Addr} {xs : List Value} {B : Nat → Prop} {obs : List (Option Nat)} (h : w.ownsRow base 5 1 (.slice ao n c) n xs) (hF : FrO B obs w w') (hB : ∀ b, (Value.slice ao n c).ownBlock = some b → ¬ B b ∧ some b ∉ obs) : w'.ownsRow base 5 1 (.slice ao n c) n xs := by
  obtain ⟨h1, h2⟩ := h
  refine ⟨h1, ?_⟩
  rcases h2 with h2 | ⟨g, cap, cur, hv, hg, hh, r⟩
  · exact Or.inl h2
  · have hb := hB g (by rw [hv]; rfl)
    exact Or.inr ⟨g, cap, cur, hv, hg, (hF.block g (lt_of_block hh) hb.1 hb.2).trans hh, r⟩
theorem own_type {w : World} {base n c q : Nat} {ao : Option Addr} {xs cs : List Value} {t : Nat} (h : w.ownsRow base 5 1 (.slice ao n c) n xs) (hq : w.heap[q]? = some (.cells cs.toArray t)) (ht : t ≠ 5) : (Value.slice ao n c).ownBlock ≠ some q := by
  intro he
  rcases h.2 with ⟨h, _⟩ | ⟨g, cap, cur, h, _, hh, _⟩
  · cases h; cases he
  · cases h; cases he
    rw [hh] at hq
    simp at hq
    exact ht hq.2.symm

theorem own_later {w w' : World} {base e s n : Nat} {v : Value} {xs : List Value} (h : w.ownsRow base e s v n xs) (hb : Below w.heap.size w w') : w'.ownsRow base e s v n xs := by
  obtain ⟨h1, h2⟩ := h
  refine ⟨h1, ?_⟩
  rcases h2 with h2 | ⟨g, cap, cur, hv, hg, hh, r⟩
  · exact Or.inl h2
  · exact Or.inr ⟨g, cap, cur, hv, hg, (hb.block g (lt_of_block hh)).trans hh, r⟩

set_option maxHeartbeats 1000000 in
theorem all_2 (vE : Value) (base bk i n c0 c1 cw q : Nat) (B : Nat → Prop) (es : List Bl) (a0 a1 aw : Option Addr) (L : List Int) (w : World) (hbase : base ≤ w.heap.size) (hB : Bk w base bk vE B es) (hes : es.length = 3 * i) (hi : i + 3 ≤ 100000000) (hn : n ≤ 1000000000)
    (o0 : w.ownsRow base 5 1 (.slice a0 n c0) n (L.map (Value.int .u8))) (o1 : w.ownsRow base 5 1 (.slice a1 n c1) n (L.map (Value.int .u8))) (ow : w.ownsRow base 5 1 (.slice aw n cw) n (L.map (Value.int .u8)))
    (hq : w.heap[q]? = some (.cells #[.slice a0 n c0, .slice a1 n c1] 22)) (hqB : ¬ B q)
    (n0 : ∀ b, (Value.slice a0 n c0).ownBlock = some b → ¬ B b) (n1 : ∀ b, (Value.slice a1 n c1).ownBlock = some b → ¬ B b ∧ (Value.slice a0 n c0).ownBlock ≠ some b)
    (nw : ∀ b, (Value.slice aw n cw).ownBlock = some b → ¬ B b ∧ (Value.slice a0 n c0).ownBlock ≠ some b ∧ (Value.slice a1 n c1).ownBlock ≠ some b) :
    Calls Tryz.prog 56 #[.pointer (some ⟨bk, 0, none⟩), .slice (some ⟨q, 0, none⟩) 2 2, .slice aw n cw] w fun e w' => e = .returned (.bool true) ∧ ∃ es', es'.length = 6 ∧ (∀ e ∈ es', e.len ≤ n + 92) ∧
      Bk w' base bk vE (fun k => B k ∨ (Value.slice a0 n c0).ownBlock = some k ∨ (Value.slice a1 n c1).ownBlock = some k ∨ w.heap.size ≤ k) (es ++ es') ∧
      FrO B [(Value.slice a0 n c0).ownBlock, (Value.slice a1 n c1).ownBlock] w w' := by
  have t0 := own_type (cs := [.slice a0 n c0, .slice a1 n c1]) o0 hq (by decide)
  have k0 : w.cell? ⟨q, 0, none⟩ = some (.slice a0 n c0) := (cell_of_row w q 0 _ _ (0, 0) hq).trans rfl
  go_enter Tryz.func56, Tryz.ntmps56
  go_wp2_with fail
  refine wp_loop_rounds 3 ?_
  rw [rounds_succ]
  go_wp2_with fail
  refine (same_true a0 aw n n c0 cw L _ (by omega) (Lies.owned o0) (Lies.owned ow)).mono ?_
  rintro e u1 ⟨rfl, hb1⟩
  have k0' := bk_later hb1 k0
  go_wp2_with fail
  refine (keep_fr vE base bk i n c0 B es a0 L u1 (Nat.le_trans hbase hb1.size) (hB.below hb1) hes (by omega) hn (own_later o0 hb1) n0).mono ?_
  rintro e u2 ⟨rfl, x1, x2, hB2, l1, l2, hF2⟩
  have s1 := hb1.size
  have s2 := hF2.size
  have hq1 := (hb1.block q (lt_of_block hq)).trans hq
  have hq2 := (hF2.block q (lt_of_block hq1) hqB (by simpa using fun h => t0 h.symm)).trans hq1
  have o12 := own_fro (own_later o1 hb1) hF2 (fun b hb => ⟨(n1 b hb).1, by simpa using fun h => (n1 b hb).2 h.symm⟩)
  have ow2 := own_fro (own_later ow hb1) hF2 (fun b hb => ⟨(nw b hb).1, by simpa using fun h => (nw b hb).2.1 h.symm⟩)
  have k1 : u2.cell? ⟨q, 1, none⟩ = some (.slice a1 n c1) := (cell_of_row u2 q 1 _ _ (0, 0) hq2).trans rfl
  clear k0 k0'
  go_wp2_with fail
  rw [rounds_succ]
  go_wp2_with fail
  refine (same_true a1 aw n n c1 cw L _ (by omega) (Lies.owned o12) (Lies.owned ow2)).mono ?_
  rintro e u3 ⟨rfl, hb3⟩
  have k1' := bk_later hb3 k1
  have lt1 := fun b hb => ((own_later o1 hb1).lt b hb).2
  go_wp2_with fail
  refine (keep_fr vE base bk (i + 1) n c1 _ _ a1 L u3 (by have := hb3.size; omega) (hB2.below hb3) (by simp [hes]; omega) (by omega) hn (own_later o12 hb3) (fun b hb h => by
    rcases h with h | h | h
    · exact (n1 b hb).1 h
    · exact (n1 b hb).2 h
    · have := lt1 b hb; omega)).mono ?_
  rintro e u4 ⟨rfl, y1, y2, hB4, m1, m2, hF4⟩
  have s3 := hb3.size
  have s4 := hF4.size
  clear k1 k1'
  go_wp2_with fail
  rw [rounds_succ]
  go_wp2
  go_ret
  refine ⟨rfl, [⟨a0, n, c0⟩, x1, x2, ⟨a1, n, c1⟩, y1, y2], rfl, ?_, ?_, ?_⟩
  · intro e he
    simp at he
    rcases he with rfl | rfl | rfl | rfl | rfl | rfl <;> (try simp only) <;> omega
  · have h := hB4.weaken (B' := fun k => B k ∨ (Value.slice a0 n c0).ownBlock = some k ∨ (Value.slice a1 n c1).ownBlock = some k ∨ w.heap.size ≤ k) (fun k _ h => by
      rcases h with (h | h | h) | h | h
      · exact .inl h
      · exact .inr (.inl h)
      · exact .inr (.inr (.inr (by omega)))
      · exact .inr (.inr (.inl h))
      · exact .inr (.inr (.inr (by omega))))
    simpa using h
  · refine ⟨?_, ?_, ?_, by omega, fun k hk hb ho => ?_⟩
    · rw [hF4.os, hb3.os, hF2.os, hb1.os]
    · rw [hF4.tape, hb3.tape, hF2.tape, hb1.tape]
    · rw [hF4.output, hb3.output, hF2.output, hb1.output]
    · simp only [List.mem_cons, List.not_mem_nil, or_false, not_or] at ho
      rw [hF4.block k (by omega) (fun h => by
        rcases h with h | h | h
        · exact hb h
        · exact ho.1 h.symm
        · omega) (by simpa using ho.2), hb3.block k (by omega), hF2.block k (by omega) hb (by simpa using ho.1), hb1.block k hk]
end Go.Proofs.YtdkcplndplhblaaGreatDoor

/- The book's lists of entries; annexlaw4.entry and Book.entries by their contracts. -/
namespace Go.Proofs.YtdkcplndplhblaaGreatDoor
open Go.RowKit
set_option maxRecDepth 100000

/-- The mark of the i-th list of entries. -/
def entM (i : Nat) : List Value := [.string ⟨#[]⟩, .int .i64 (-1 - (i : Int)), .int .i64 0]
def fullE (i n : Nat) : List Value := (List.replicate n (entM i)).flatten
theorem fullE_length (i n : Nat) : (fullE i n).length = n * 3 := by
  induction n with
  | zero => rfl
  | succ n ih => simp only [fullE, List.replicate_succ, List.flatten_cons, List.length_append] at *; rw [ih]; simp [entM]; omega
theorem fullE_snoc (i n : Nat) : fullE i (n + 1) = fullE i n ++ entM i := by
  simp [fullE, List.replicate_succ']
theorem fullE_add (i n m : Nat) : fullE i (n + m) = fullE i n ++ fullE i m := by
  unfold fullE; rw [← List.replicate_append_replicate, List.flatten_append]
theorem fullE_take (i m k : Nat) (h : m ≤ k) : (fullE i k).take (m * 3) = fullE i m := by
  obtain ⟨d, rfl⟩ := Nat.exists_eq_add_of_le h
  rw [fullE_add, ← fullE_length i m, List.take_left]
theorem set_ent (i k : Nat) (xs : List Value) (h : k * 3 + 2 < xs.length) :
    (((fullE i k ++ xs.drop (k * 3)).set (k * 3) (.string ⟨#[]⟩)).set (k * 3 + 1) (.int .i64 (-1 - (i : Int)))).set (k * 3 + 2) (.int .i64 0) = fullE i (k + 1) ++ xs.drop ((k + 1) * 3) := by
  have h0 := fullE_length i k
  rw [List.drop_eq_getElem_cons (by omega), List.drop_eq_getElem_cons (by omega), List.drop_eq_getElem_cons (by omega), fullE_snoc, List.set_append_right _ _ (by omega), List.set_append_right _ _ (by omega), List.set_append_right _ _ (by omega), h0]
  have e1 : k * 3 - k * 3 = 0 := by omega
  have e2 : k * 3 + 1 - k * 3 = 1 := by omega
  have e3 : k * 3 + 2 - k * 3 = 2 := by omega
  have e4 : (k + 1) * 3 = k * 3 + 1 + 1 + 1 := by omega
  rw [e1, e2, e3, e4, List.append_assoc]
  rfl

theorem entry4_any (i : Nat) (w : World) (hi : i ≤ 1000000000000) :
    Calls Tryz.prog 60 #[.int .i64 i] w fun e w' => e = .returned (.agg #[.string ⟨#[]⟩, .int .i64 (-1 - (i : Int)), .int .i64 0]) ∧ Below w.heap.size w w' := by
  have h1 : (i : Int) ≤ 1000000000000 := by omega
  have h3 : (0 : Int) ≤ i := by omega
  go_enter Tryz.func60, Tryz.ntmps60
  go_wp2
  refine bodyPost_ret (results_cell_row rfl _ _ w.heap.size 86 _ (0, 0) _ rfl (heap_alloc_new w _) Tryz.underlying86 rfl (by kernel_rfl)) rfl ?_
  exact ⟨rfl, newBox _ _⟩

/-- Another list of the same mark stays one, where a list is appended to. -/
theorem own_beside3 {w w' : World} {base n k m i : Nat} {v v' u : Value} (hv : w.ownsRow base 86 3 v n (fullE i n)) (hl : Laid w w' v v' n k) (hv' : w'.ownsRow base 86 3 v' k (fullE i k)) (hu : w.ownsRow base 86 3 u m (fullE i m)) (hmk : m ≤ k) : w'.ownsRow base 86 3 u m (fullE i m) := by
  refine ⟨hu.1, ?_⟩
  rcases hu.2 with h0 | ⟨b, c, cur, rfl, hb, hh, hmc, hcm, hcs, ht⟩
  · exact Or.inl h0
  right
  rcases hl with ⟨g, cap, rfl, rfl, hg⟩ | ⟨cap', rfl, hg⟩
  · by_cases hbg : b = g
    · subst hbg
      rcases hv.2 with ⟨h, _⟩ | ⟨g1, c1, cur1, h, _, hh1, _, _, hcs1, _⟩
      · cases h
      cases h
      rcases hv'.2 with ⟨h, _⟩ | ⟨g2, c2, cur2, h, _, hh2, _, _, hcs2, ht2⟩
      · cases h
      cases h
      rw [hh] at hh1
      cases hh1
      refine ⟨b, c, cur2, rfl, hb, hh2, hmc, hcm, by omega, ?_⟩
      have h3 : cur2.toList.take (m * 3) = (cur2.toList.take (k * 3)).take (m * 3) := by rw [List.take_take, Nat.min_eq_left (by omega)]
      rw [h3, ht2, fullE_take i m k hmk]
    · exact ⟨b, c, cur, rfl, hb, (hg.block b (lt_of_block hh) (by simpa using hbg)).trans hh, hmc, hcm, hcs, ht⟩
  · exact ⟨b, c, cur, rfl, hb, (hg.block b (lt_of_block hh) (by simp)).trans hh, hmc, hcm, hcs, ht⟩

/-- A row whose block is as it was. -/
theorem own_keepS {w w' : World} {base e s n : Nat} {v : Value} {xs : List Value} (h : w.ownsRow base e s v n xs) (hk : ∀ b, b < w.heap.size → v.ownBlock = some b → w'.heap[b]? = w.heap[b]?) : w'.ownsRow base e s v n xs := by
  obtain ⟨h1, h2⟩ := h
  refine ⟨h1, ?_⟩
  rcases h2 with h2 | ⟨g, cap, cur, hv, hg, hh, r⟩
  · exact Or.inl h2
  · refine Or.inr ⟨g, cap, cur, hv, hg, (hk g (lt_of_block hh) ?_).trans hh, r⟩
    subst hv; rfl

/-- The lists of entries in memory, each full of its mark; 'C' holds of every block that is theirs. -/
structure Ek (w : World) (base : Nat) (vE : Value) (C : Nat → Prop) (fs : List Bl) : Prop where
  row : w.ownsRow base 28 1 vE fs.length (fs.map Bl.val)
  hC : ∀ k, vE.ownBlock = some k → C k
  lies : ∀ i (h : i < fs.length), w.ownsRow base 86 3 (fs[i]).val (fs[i]).len (fullE (i / 3) (fs[i]).len)
  mine : ∀ e ∈ fs, ∀ b, e.val.ownBlock = some b → C b
theorem Ek.keep {w w' : World} {base : Nat} {vE : Value} {C : Nat → Prop} {fs : List Bl} (h : Ek w base vE C fs) (hk : ∀ k, k < w.heap.size → C k → w'.heap[k]? = w.heap[k]?) : Ek w' base vE C fs :=
  ⟨own_keepS h.row (fun b hb hv => hk b hb (h.hC b hv)), h.hC, fun i hi => own_keepS (h.lies i hi) (fun b hb hv => hk b hb (h.mine _ (List.getElem_mem hi) b hv)), h.mine⟩
theorem Ek.below {w w' : World} {base : Nat} {vE : Value} {C : Nat → Prop} {fs : List Bl} (h : Ek w base vE C fs) (hb : Below w.heap.size w w') : Ek w' base vE C fs := h.keep fun k hk _ => hb.block k hk
theorem Ek.weaken {w : World} {base : Nat} {vE : Value} {C C' : Nat → Prop} {fs : List Bl} (h : Ek w base vE C fs) (hc : ∀ k, k < w.heap.size → C k → C' k) : Ek w base vE C' fs :=
  ⟨h.row, fun k hk => hc k (h.row.lt k hk).2 (h.hC k hk), h.lies, fun e he b hb => by
    obtain ⟨i, hi, rfl⟩ := List.mem_iff_getElem.1 he
    exact hc b ((h.lies i hi).lt b hb).2 (h.mine _ he b hb)⟩

/-- The book of bytes, where the third cell of its box is another. -/
theorem Bk.newE {w w' : World} {vE vE' : Value} {base bk : Nat} {B : Nat → Prop} {es : List Bl} (h : Bk w base bk vE B es) (hk : ∀ k, k < w.heap.size → B k → k ≠ bk → w'.heap[k]? = w.heap[k]?)
    (hbox : ∀ vL vN, w.heap[bk]? = some (.cells #[vL, vN, vE] 59) → w'.heap[bk]? = some (.cells #[vL, vN, vE'] 59)) : Bk w' base bk vE' B es := by
  obtain ⟨⟨vL, vN, hb, hL, hN, hBL, hBN⟩, hbk, hl, hm⟩ := h
  have ne : ∀ {k : Nat} {cs : Array Value} {t : Nat}, w.heap[k]? = some (.cells cs t) → t ≠ 59 → k ≠ bk := by
    rintro k cs t h1 h2 rfl
    rw [hb] at h1
    simp at h1
    exact h2 h1.2.symm
  have own : ∀ {e n : Nat} {v : Value} {xs : List Value}, w.ownsRow base e 1 v n xs → e ≠ 59 → (∀ k, v.ownBlock = some k → B k) → w'.ownsRow base e 1 v n xs := by
    intro e n v xs ho he hB
    obtain ⟨h1, h2⟩ := ho
    refine ⟨h1, ?_⟩
    rcases h2 with h2 | ⟨g, cap, cur, hv, hg, hh, r⟩
    · exact Or.inl h2
    · refine Or.inr ⟨g, cap, cur, hv, hg, (hk g (lt_of_block hh) (hB g ?_) (ne hh he)).trans hh, r⟩
      subst hv; rfl
  refine ⟨⟨vL, vN, hbox vL vN hb, own hL (by decide) hBL, own hN (by decide) hBN, hBL, hBN⟩, hbk, fun i hi => ?_, fun e he ad had => ?_⟩
  · have hli := hl i hi
    refine ⟨hli.hlen, hli.hle, hli.hnone, fun ad had t u hu => ?_⟩
    obtain ⟨hB, _, cs, hcs⟩ := hm _ (List.getElem_mem hi) ad had
    have hc := hli.hcells ad had t u hu
    rw [← hc]
    exact World.cell?_of_block (w := w) (by rw [add_block]; exact hk _ (lt_of_block hcs) hB (ne hcs (by decide)))
  · obtain ⟨hB, hbs, cs, hcs⟩ := hm e he ad had
    exact ⟨hB, hbs, cs, (hk _ (lt_of_block hcs) hB (ne hcs (by decide))).trans hcs⟩
end Go.Proofs.YtdkcplndplhblaaGreatDoor

/- Plain mathematics: what is read, written again, is what was read. -/
namespace Go.Proofs.YtdkcplndplhblaaGreatDoor
open Go.RowKit

theorem fold_val : ∀ (l : List Int) (a : Int), l.foldl (fun x c => x * 256 + c) a = a * 256 ^ l.length + val l
  | [], a => by simp [val]
  | c :: l, a => by
    have h1 := fold_val l (a * 256 + c)
    have h2 := fold_val l (0 * 256 + c)
    simp only [List.foldl_cons, val, List.length_cons] at *
    rw [h1, h2, Int.pow_succ]
    have : (a * 256 + c) * 256 ^ l.length = a * (256 ^ l.length * 256) + (0 * 256 + c) * 256 ^ l.length := by
      rw [Int.add_mul, Int.mul_assoc, Int.mul_comm 256 (256 ^ l.length)]; simp
    omega
theorem val_cons (c : Int) (l : List Int) : val (c :: l) = c * 256 ^ l.length + val l := by
  have := fold_val l (0 * 256 + c)
  simp only [val, List.foldl_cons] at *
  rw [this]; simp

theorem p256 (k : Nat) : (256 : Int) ^ k = 2 ^ (8 * k) := by
  rw [Int.pow_mul]; rfl

theorem be_add (c : Int) (m : Nat) (X : Int) : ∀ k, k ≤ m → be (X + c * 2 ^ (8 * m)) k = be X k
  | 0, _ => rfl
  | k + 1, h => by
    simp only [be]
    rw [be_add c m X k (by omega)]
    congr 1
    have hp : (2 : Int) ^ (8 * k) ≠ 0 := Int.ne_of_gt (Int.pow_pos (by decide))
    have e : c * 2 ^ (8 * m) = (c * 2 ^ (8 * (m - k - 1)) * 256) * 2 ^ (8 * k) := by
      rw [Int.mul_assoc, Int.mul_assoc]
      congr 1
      rw [show (256 : Int) = 2 ^ 8 by rfl, ← Int.pow_add, ← Int.pow_add]
      congr 1
      omega
    rw [e, Int.add_mul_ediv_right _ _ hp, Int.add_mul_emod_self_right]

theorem be_val : ∀ (l : List Int), (∀ x ∈ l, 0 ≤ x ∧ x ≤ 255) → be (val l) l.length = l
  | [], _ => rfl
  | c :: l, h => by
    have hc := h c (by simp)
    have hl : ∀ x ∈ l, 0 ≤ x ∧ x ≤ 255 := fun x hx => h x (by simp [hx])
    have hb := val_bd l hl
    rw [val_cons, p256, List.length_cons, be]
    rw [p256] at hb
    have hp : (2 : Int) ^ (8 * l.length) ≠ 0 := Int.ne_of_gt (Int.pow_pos (by decide))
    congr 1
    · rw [Int.add_comm, Int.add_mul_ediv_right _ _ hp, Int.ediv_eq_zero_of_lt hb.1 hb.2]
      omega
    · rw [Int.add_comm, be_add c l.length (val l) l.length (Nat.le_refl _)]
      exact be_val l hl

theorem take_piece (bs : List Int) (pl k : Nat) : bs.take pl ++ (bs.drop pl).take k = bs.take (pl + k) := by
  rw [List.take_add]

theorem piece_len (bs : List Int) (n pl k : Nat) (hl : bs.length = n) (h : pl + k ≤ n) : ((bs.drop pl).take k).length = k := by simp; omega
theorem piece_by {bs : List Int} (pl k : Nat) (hby : ∀ x ∈ bs, 0 ≤ x ∧ x ≤ 255) : ∀ x ∈ (bs.drop pl).take k, 0 ≤ x ∧ x ≤ 255 := fun x hx => hby x (List.mem_of_mem_drop (List.mem_of_mem_take hx))

theorem be_piece (bs : List Int) (n pl k : Nat) (hl : bs.length = n) (h : pl + k ≤ n) (hby : ∀ x ∈ bs, 0 ≤ x ∧ x ≤ 255) : be (val ((bs.drop pl).take k)) k = (bs.drop pl).take k := by
  have := be_val _ (piece_by pl k hby)
  rwa [piece_len bs n pl k hl h] at this

theorem wrap_small (X : Int) (h0 : 0 ≤ X) (h1 : X ≤ 18446744073709551615) : IntKind.u64.wrap X = X := Go.IntWalk.u64_in X ⟨h0, h1⟩

/-- U32 and U64 with the greatest bound: they fail and answer 0, or what they answer is the next bytes. -/
theorem num_cases (k n : Nat) (bs : List Int) (pl : Nat) (code : Int) (hl : bs.length = n) (_hk : k ≤ 8) (hby : ∀ x ∈ bs, 0 ≤ x ∧ x ≤ 255) (_hp : pl ≤ n) :
    (∃ c, rdNum k n bs pl code 9223372036854775807 = (0, pl, c) ∧ (c == 0) = false) ∨
    (∃ x, rdNum k n bs pl code 9223372036854775807 = (x, pl + k, 0) ∧ pl + k ≤ n ∧ bs.take pl ++ be (IntKind.u64.wrap x) k = bs.take (pl + k)) := by
  unfold rdNum
  by_cases hc : code ≠ 0
  · exact .inl ⟨code, by rw [if_pos hc], by simpa using hc⟩
  · rw [if_neg hc]
    by_cases hn : n < pl + k
    · exact .inl ⟨11, by rw [if_pos hn], by decide⟩
    · rw [if_neg hn]
      split
      · exact .inl ⟨12, rfl, by decide⟩
      · rename_i hv
        have hb := val_bd _ (piece_by pl k hby)
        refine .inr ⟨_, rfl, by omega, ?_⟩
        rw [wrap_small _ hb.1 (by omega), be_piece bs n pl k hl (by omega) hby, take_piece]

theorem sum_cases (n : Nat) (bs : List Int) (pl : Nat) (code : Int) (hl : bs.length = n) (hby : ∀ x ∈ bs, 0 ≤ x ∧ x ≤ 255) (_hp : pl ≤ n) :
    (∃ c, rdSum n bs pl code = (0, pl, c) ∧ (c == 0) = false) ∨
    (∃ x, rdSum n bs pl code = (x, pl + 8, 0) ∧ pl + 8 ≤ n ∧ 0 ≤ x ∧ x ≤ 18446744073709551615 ∧ bs.take pl ++ be x 8 = bs.take (pl + 8)) := by
  unfold rdSum
  by_cases hc : code ≠ 0
  · exact .inl ⟨code, by rw [if_pos hc], by simpa using hc⟩
  · rw [if_neg hc]
    by_cases hn : n < pl + 8
    · exact .inl ⟨11, by rw [if_pos hn], by decide⟩
    · rw [if_neg hn]
      have hb := val_bd _ (piece_by pl 8 hby)
      rw [piece_len bs n pl 8 hl (by omega)] at hb
      have e : (256 : Int) ^ 8 = 18446744073709551616 := by decide
      refine .inr ⟨_, rfl, by omega, hb.1, by omega, ?_⟩
      rw [be_piece bs n pl 8 hl (by omega) hby, take_piece]

theorem flag_cases (n : Nat) (bs : List Int) (pl : Nat) (code : Int) (hl : bs.length = n) (hby : ∀ x ∈ bs, 0 ≤ x ∧ x ≤ 255) (_hp : pl ≤ n) :
    (∃ c, rdFlag n bs pl code = (false, pl, c) ∧ (c == 0) = false) ∨
    (∃ x : Bool, rdFlag n bs pl code = (x, pl + 4, 0) ∧ pl + 4 ≤ n ∧ bs.take pl ++ be (IntKind.u64.wrap (if x then 1 else 0)) 4 = bs.take (pl + 4)) := by
  unfold rdFlag
  by_cases hc : code ≠ 0
  · exact .inl ⟨code, by rw [if_pos hc], by simpa using hc⟩
  · rw [if_neg hc]
    by_cases hn : n < pl + 4
    · exact .inl ⟨11, by rw [if_pos hn], by decide⟩
    · rw [if_neg hn]
      by_cases hv : 1 < val ((bs.drop pl).take 4)
      · rw [if_pos hv]; exact .inl ⟨13, rfl, by decide⟩
      · rw [if_neg hv]
        have hb := val_bd _ (piece_by pl 4 hby)
        refine .inr ⟨_, rfl, by omega, ?_⟩
        have e : (if (val ((bs.drop pl).take 4) == 1) = true then (1 : Int) else 0) = val ((bs.drop pl).take 4) := by
          by_cases h1 : val ((bs.drop pl).take 4) = 1
          · simp [h1]
          · simp [h1]; omega
        rw [e, wrap_small _ hb.1 (by omega), be_piece bs n pl 4 hl (by omega) hby, take_piece]

theorem zeros_of (l : List Int) (k : Nat) (hl : l.length = k) (h : ∀ t, t < k → l.getD t 0 = 0) : l = List.replicate k 0 := by
  apply List.ext_getElem
  · simp [hl]
  · intro i h1 h2
    have := h i (by omega)
    simp [List.getD, h1] at this
    simpa using this

theorem text_cases (n : Nat) (bs : List Int) (pl : Nat) (code : Int) (hl : bs.length = n) (hby : ∀ x ∈ bs, 0 ≤ x ∧ x ≤ 255) (_hp : pl ≤ n) :
    (∃ c, rdText n bs pl code 9223372036854775807 = ([], pl, c) ∧ (c == 0) = false) ∨
    (∃ L, rdText n bs pl code 9223372036854775807 = (L, pl + (4 + L.length + padN L.length), 0) ∧ pl + (4 + L.length + padN L.length) ≤ n ∧ (∀ x ∈ L, 0 ≤ x ∧ x ≤ 255) ∧
      bs.take pl ++ (be L.length 4 ++ L ++ List.replicate (padN L.length) 0) = bs.take (pl + (4 + L.length + padN L.length))) := by
  have hv := val4_lt bs pl hby
  unfold rdText
  by_cases hc : code ≠ 0
  · exact .inl ⟨code, by rw [if_pos hc], by simpa using hc⟩
  · rw [if_neg hc]
    by_cases hn : n < pl + 4
    · exact .inl ⟨11, by rw [if_pos hn], by decide⟩
    · rw [if_neg hn]
      by_cases hw : (9223372036854775807 : Int) < 0 ∨ 9223372036854775807 < val ((bs.drop pl).take 4)
      · rw [if_pos hw]; exact .inl ⟨14, rfl, by decide⟩
      · rw [if_neg hw]
        have e4 := be_piece bs n pl 4 hl (by omega) hby
        obtain ⟨k, hk⟩ := Int.eq_ofNat_of_zero_le hv.1
        rw [hk] at e4 ⊢
        simp only [Int.toNat_natCast]
        by_cases h3 : n < pl + (4 + k + padN k)
        · rw [if_pos h3]; exact .inl ⟨11, rfl, by decide⟩
        · rw [if_neg h3]
          by_cases h4 : ∀ t, t < padN k → bs.getD (pl + (4 + k) + t) 0 = 0
          · rw [if_neg (fun h => h h4)]
            have hL := piece_len bs n (pl + 4) k hl (by omega)
            refine .inr ⟨(bs.drop (pl + 4)).take k, ?_, ?_, piece_by _ _ hby, ?_⟩
            · rw [hL]
            · rw [hL]; omega
            · rw [hL, e4]
              have hz : (bs.drop (pl + (4 + k))).take (padN k) = List.replicate (padN k) 0 :=
                zeros_of _ _ (piece_len bs n (pl + (4 + k)) (padN k) hl (by omega)) (fun t ht => by
                  have := h4 t ht
                  simpa [List.getD, List.getElem?_take, ht] using this)
              rw [← hz, ← List.append_assoc, ← List.append_assoc, take_piece, take_piece, show pl + 4 + k = pl + (4 + k) by omega, take_piece]
              congr 1; omega
          · rw [if_pos h4]; exact .inl ⟨15, rfl, by decide⟩
end Go.Proofs.YtdkcplndplhblaaGreatDoor

/- Plain mathematics: what was written is read back; what is cut off is too short. -/
namespace Go.Proofs.YtdkcplndplhblaaGreatDoor
open Go.RowKit

theorem be_mod (X : Int) (k : Nat) : be X k = be (X % 2 ^ (8 * k)) k := by
  have h := be_add (X / 2 ^ (8 * k)) k (X % 2 ^ (8 * k)) k (Nat.le_refl _)
  rw [Int.mul_comm, Int.emod_add_mul_ediv] at h
  exact h
theorem val_be : ∀ (k : Nat) (X : Int), 0 ≤ X → X < 2 ^ (8 * k) → val (be X k) = X
  | 0, X, h0, h1 => by simp at h1; simp [be, val]; omega
  | k + 1, X, h0, h1 => by
    have hp : (0 : Int) < 2 ^ (8 * k) := Int.pow_pos (by decide)
    rw [be, val_cons, be_length, p256, be_mod X k, val_be k _ (Int.emod_nonneg _ (Int.ne_of_gt hp)) (Int.emod_lt_of_pos _ hp)]
    have hq0 : 0 ≤ X / 2 ^ (8 * k) := Int.ediv_nonneg h0 (Int.le_of_lt hp)
    have hq1 : X / 2 ^ (8 * k) < 256 := by
      rw [Int.ediv_lt_iff_lt_mul hp]
      rw [show 8 * (k + 1) = 8 * k + 8 by omega, Int.pow_add] at h1
      rw [Int.mul_comm]; exact h1
    rw [Int.emod_eq_of_lt hq0 hq1]
    have := Int.emod_add_mul_ediv X (2 ^ (8 * k))
    rw [Int.mul_comm] at this
    omega

theorem back_num (k n : Nat) (bs : List Int) (pl : Nat) (X : Int) (h0 : 0 ≤ X) (h1 : X < 2 ^ (8 * k)) (hfit : pl + k ≤ n) (hpre : (bs.drop pl).take k = be X k) : rdNum k n bs pl 0 X = (X, pl + k, 0) := by
  unfold rdNum
  rw [if_neg (by simp), if_neg (by omega), hpre, val_be k X h0 h1, if_neg (by omega)]
theorem cut_num (k n : Nat) (bs : List Int) (pl : Nat) (X : Int) (h : n < pl + k) : rdNum k n bs pl 0 X = (0, pl, 11) := by
  unfold rdNum
  rw [if_neg (by simp), if_pos h]
theorem back_sum (n : Nat) (bs : List Int) (pl : Nat) (S : Int) (h0 : 0 ≤ S) (h1 : S ≤ 18446744073709551615) (hfit : pl + 8 ≤ n) (hpre : (bs.drop pl).take 8 = be S 8) : rdSum n bs pl 0 = (S, pl + 8, 0) := by
  have h2 : S < 2 ^ (8 * 8) := Int.lt_of_le_of_lt h1 (by decide)
  unfold rdSum
  rw [if_neg (by simp), if_neg (by omega), hpre, val_be 8 S h0 h2]
theorem cut_sum (n : Nat) (bs : List Int) (pl : Nat) (h : n < pl + 8) : rdSum n bs pl 0 = (0, pl, 11) := by
  unfold rdSum
  rw [if_neg (by simp), if_pos h]

theorem val_len (dl : Nat) (h : dl ≤ 1048576) : val (be (dl : Int) 4) = dl :=
  val_be 4 dl (by omega) (Int.lt_of_le_of_lt (show (dl : Int) ≤ 1048576 by omega) (by decide))
theorem back_text (n : Nat) (bs : List Int) (pl dl : Nat) (ds : List Int) (hl : ds.length = dl) (hd : dl ≤ 1048576) (hfit : pl + (4 + dl + padN dl) ≤ n) (hpre : (bs.drop pl).take (4 + dl + padN dl) = be dl 4 ++ ds ++ List.replicate (padN dl) 0) :
    rdText n bs pl 0 dl = (ds, pl + (4 + dl + padN dl), 0) := by
  have e4 : (be (dl : Int) 4).length = 4 := be_length _ _
  have h4 : (bs.drop pl).take 4 = be (dl : Int) 4 := by
    have h := congrArg (List.take 4) hpre
    have e : (be (dl : Int) 4 ++ ds ++ List.replicate (padN dl) 0).take 4 = be (dl : Int) 4 := by
      rw [List.append_assoc, List.take_append_of_le_length (by omega)]
      exact List.take_of_length_le (by omega)
    rw [e, List.take_take, Nat.min_eq_left (by omega)] at h
    exact h
  have hD : (bs.drop (pl + 4)).take dl = ds := by
    have h := congrArg (fun l => (l.drop 4).take dl) hpre
    have e : ((be (dl : Int) 4 ++ ds ++ List.replicate (padN dl) 0).drop 4).take dl = ds := by
      rw [List.append_assoc, List.drop_append_of_le_length (by omega)]
      rw [show (be (dl : Int) 4).drop 4 = [] from List.drop_of_length_le (by omega), List.nil_append, List.take_append_of_le_length (by omega)]
      exact List.take_of_length_le (by omega)
    have e2 : (((bs.drop pl).take (4 + dl + padN dl)).drop 4).take dl = (bs.drop (pl + 4)).take dl := by
      rw [List.drop_take, List.take_take, List.drop_drop, Nat.min_eq_left (by omega)]
    exact e2.symm.trans (h.trans e)
  have hZ : ∀ t, t < padN dl → bs.getD (pl + (4 + dl) + t) 0 = 0 := by
    intro t ht
    have h := congrArg (fun l => l[4 + dl + t]?) hpre
    have e : (be (dl : Int) 4 ++ ds ++ List.replicate (padN dl) 0)[4 + dl + t]? = some 0 := by
      rw [List.getElem?_append_right (by simp [e4, hl])]
      simp [e4, hl, ht]
    have e2 : ((bs.drop pl).take (4 + dl + padN dl))[4 + dl + t]? = bs[pl + (4 + dl) + t]? := by
      rw [List.getElem?_take, if_pos (by omega), List.getElem?_drop]
      congr 1; omega
    have := e2.symm.trans (h.trans e)
    simp [List.getD, this]
  unfold rdText
  rw [if_neg (by simp), if_neg (by omega), h4, val_len dl hd, if_neg (by omega)]
  simp only [Int.toNat_natCast]
  rw [if_neg (by omega), if_neg (fun h => h hZ), hD]
theorem cut_text (n : Nat) (bs : List Int) (pl dl : Nat) (hd : dl ≤ 1048576) (hcut : n < pl + (4 + dl + padN dl)) (hpre : pl + 4 ≤ n → (bs.drop pl).take 4 = be (dl : Int) 4) :
    rdText n bs pl 0 dl = ([], pl, 11) := by
  unfold rdText
  rw [if_neg (by simp)]
  by_cases h : n < pl + 4
  · rw [if_pos h]
  · rw [if_neg h, hpre (by omega), val_len dl hd, if_neg (by omega)]
    simp only [Int.toNat_natCast]
    rw [if_pos hcut]
end Go.Proofs.YtdkcplndplhblaaGreatDoor

/- What was put is taken again (numbers); the two messages' datagrams, read. -/
namespace Go.Proofs.YtdkcplndplhblaaGreatDoor
open Go.RowKit
set_option maxRecDepth 100000

/-- A number that its field can hold. -/
def Fit : Val → Prop
  | .small x => 0 ≤ x ∧ x < 4294967296
  | .great x => 0 ≤ x ∧ x < 9223372036854775808
  | _ => False
/-- Of one kind. -/
def Like : Val → Val → Prop
  | .small _, .small _ => True
  | .great _, .great _ => True
  | _, _ => False
theorem back_numM (k n : Nat) (bs : List Int) (pl : Nat) (X M : Int) (h0 : 0 ≤ X) (h1 : X < 2 ^ (8 * k)) (hM : X ≤ M) (hfit : pl + k ≤ n) (hpre : (bs.drop pl).take k = be X k) : rdNum k n bs pl 0 M = (X, pl + k, 0) := by
  unfold rdNum
  rw [if_neg (by simp), if_neg (by omega), hpre, val_be k X h0 h1, if_neg (by omega)]
theorem take_back {x k : Val} (hf : Fit x) (hl : Like k x) (n : Nat) (bs : List Int) (pl : Nat) (hfit : pl + (putV x).length ≤ n) (hpre : (bs.drop pl).take (putV x).length = putV x) :
    takeV n bs (pl, 0) k = (x, (pl + (putV x).length, 0)) ∧ takeE n bs (pl, 0) k = 0 := by
  cases x with
  | small x =>
    cases k with
    | small y =>
      obtain ⟨h0, h1⟩ := hf
      simp only [putV, be_length, wrap_small x h0 (by omega)] at hfit hpre ⊢
      have q := back_numM 4 n bs pl x 4294967295 h0 (by omega) (by omega) hfit hpre
      simp [takeV, takeE, q]
    | _ => exact hl.elim
  | great x =>
    cases k with
    | great y =>
      obtain ⟨h0, h1⟩ := hf
      simp only [putV, be_length, wrap_small x h0 (by omega)] at hfit hpre ⊢
      have q := back_numM 8 n bs pl x 9223372036854775807 h0 (Int.lt_of_lt_of_le h1 (by decide)) (by omega) hfit hpre
      simp [takeV, takeE, q]
    | _ => exact hl.elim
  | _ => exact hf.elim
/-- Lists of fields of the same numbers and kinds. -/
def Likes : List (Int × Val) → List (Int × Val) → Prop
  | [], [] => True
  | k :: ks, g :: gs => k.1 = g.1 ∧ Like k.2 g.2 ∧ Likes ks gs
  | _, _ => False
theorem cut_front {α : Type} {bs a b : List α} {pl : Nat} (h : (bs.drop pl).take (a ++ b).length = a ++ b) : (bs.drop pl).take a.length = a ∧ (bs.drop (pl + a.length)).take b.length = b := by
  constructor
  · have := congrArg (List.take a.length) h
    rw [List.take_take, Nat.min_eq_left (by simp), List.take_append_of_le_length (Nat.le_refl _), List.take_length] at this
    exact this
  · have := congrArg (List.drop a.length) h
    rw [List.drop_append_of_le_length (Nat.le_refl _), List.drop_length, List.nil_append, List.drop_take, List.drop_drop, List.length_append, Nat.add_sub_cancel_left] at this
    exact this
theorem takeL_back : ∀ (gs ks : List (Int × Val)) (n : Nat) (bs : List Int) (pl : Nat), Likes ks gs → (∀ g ∈ gs, Fit g.2) → pl + (putAll gs).length ≤ n → (bs.drop pl).take (putAll gs).length = putAll gs →
    takeL n bs ks (pl, 0) = (gs, (pl + (putAll gs).length, 0)) ∧ takeLE n bs ks (pl, 0) = 0
  | [], [], n, bs, pl, _, _, _, _ => ⟨rfl, rfl⟩
  | g :: gs, k :: ks, n, bs, pl, hk, hf, hn, hp => by
    have e : putAll (g :: gs) = putV g.2 ++ putAll gs := rfl
    rw [e] at hn hp ⊢
    obtain ⟨p1, p2⟩ := cut_front hp
    rw [List.length_append] at hn
    obtain ⟨q1, q2⟩ := take_back (hf g (by simp)) hk.2.1 n bs pl (by omega) p1
    obtain ⟨r1, r2⟩ := takeL_back gs ks n bs (pl + (putV g.2).length) hk.2.2 (fun x hx => hf x (by simp [hx])) (by omega) p2
    constructor
    · simp only [takeL, q1, r1]
      rw [List.length_append, Nat.add_assoc]
      simp [hk.1]
    · simp only [takeLE, q1, q2, r2, if_true]
  | [], _ :: _, _, _, _, h, _, _, _ => h.elim
  | _ :: _, [], _, _, _, h, _, _, _ => h.elim

/-- A datagram opens. -/
theorem openE_close {mg B : List Int} (h4 : mg.length = 4) (hB : B.length ≤ 1388) : openE mg (closeB (mg ++ B)).length (closeB (mg ++ B)) = 0 := by
  have hl : (closeB (mg ++ B)).length = 4 + B.length + 8 := by simp [closeB, be_length, h4]; omega
  have e1 : (closeB (mg ++ B)).take 4 = mg := by
    unfold closeB
    rw [List.append_assoc, List.take_append_of_le_length (by omega)]
    exact List.take_of_length_le (by omega)
  have hm : (mg ++ B).length = 4 + B.length := by simp [h4]
  have e2 : (closeB (mg ++ B)).drop (4 + B.length) = be (sumOf (mg ++ B)) 8 := by
    unfold closeB
    rw [← hm, List.drop_append_of_le_length (Nat.le_refl _), List.drop_length, List.nil_append]
  have e3 : (closeB (mg ++ B)).take (4 + B.length) = mg ++ B := by
    unfold closeB
    rw [← hm, List.take_append_of_le_length (Nat.le_refl _), List.take_length]
  have hs := sumOf_bd (mg ++ B)
  unfold openE
  rw [hl, if_neg (by omega), if_neg (by simpa using e1), if_neg (by omega), show 4 + B.length + 8 - 8 = 4 + B.length by omega, e2, e3, val_be 8 _ hs.1 (Int.lt_of_le_of_lt hs.2 (by decide)), if_neg (by simp)]
theorem close_mid {mg B : List Int} (h4 : mg.length = 4) : ((closeB (mg ++ B)).drop 4).take ((closeB (mg ++ B)).length - 12) = B ∧ (closeB (mg ++ B)).length - 12 = B.length := by
  have hl : (closeB (mg ++ B)).length = 4 + B.length + 8 := by simp [closeB, be_length, h4]; omega
  refine ⟨?_, by omega⟩
  rw [hl, show 4 + B.length + 8 - 12 = B.length by omega]
  unfold closeB
  rw [List.append_assoc, List.drop_append_of_le_length (by omega), show mg.drop 4 = [] from List.drop_of_length_le (by omega), List.nil_append, List.take_append_of_le_length (Nat.le_refl _), List.take_length]

theorem pl_enc : rqE plR = 0 ∧ rqB plR = closeB plB := ⟨by decide, rfl⟩
theorem rf_enc : rpE rfR = 0 ∧ rpB rfR = closeB rfB := ⟨by decide, rfl⟩
theorem pl_dec : rqDE (closeB plB) = 0 ∧ rqD (closeB plB) = plR := by
  obtain ⟨B, hB, hBl⟩ : ∃ B, plB = [65, 78, 81, 49] ++ B ∧ B = putAll (rqHead plR) ++ putAll [(6, Val.great 256)] := ⟨_, rfl, rfl⟩
  have hlen : B.length = 40 := by rw [hBl]; decide
  have hopen : openE [65, 78, 81, 49] (closeB plB).length (closeB plB) = 0 := by rw [hB]; exact openE_close rfl (by omega)
  obtain ⟨m1, m2⟩ := close_mid (mg := [65, 78, 81, 49]) (B := B) rfl
  rw [← hB] at m1 m2
  have hH : takeL 40 B (rqHead rq0) (0, 0) = (rqHead plR, (32, 0)) := by
    have := (takeL_back (rqHead plR) (rqHead rq0) 40 B 0 ⟨rfl, trivial, rfl, trivial, rfl, trivial, rfl, trivial, rfl, trivial, trivial⟩ (by intro g hg; simp only [rqHead, List.mem_cons, List.not_mem_nil, or_false] at hg; rcases hg with rfl | rfl | rfl | rfl | rfl <;> exact ⟨by decide, by decide⟩) (by decide) (by rw [hBl]; decide)).1
    exact this
  have hG : takeL 40 B [(6, Val.great 0)] (32, 0) = ([(6, .great 256)], (40, 0)) ∧ takeLE 40 B [(6, Val.great 0)] (32, 0) = 0 := by
    have := takeL_back [(6, Val.great 256)] [(6, Val.great 0)] 40 B 32 ⟨rfl, trivial, trivial⟩ (by intro g hg; simp at hg; subst hg; exact ⟨by decide, by decide⟩) (by decide) (by rw [hBl]; decide)
    exact this
  have t1 : rqH 40 B = (rqHead plR, (32, 0)) := hH
  have t2 : rq1 40 B = { plR with id := 0 } := by unfold rq1; rw [t1]; rfl
  have t3 : rqG (rq1 40 B) = [(6, Val.great 0)] := by rw [t2]; rfl
  have t4 : lastE 40 B (rqG (rq1 40 B)) (rqH 40 B).2 = 0 := by
    rw [t3, t1]; unfold lastE; simp only [hG.1, hG.2]; decide
  have t5 : rq2 40 B = plR := by unfold rq2; rw [t3, t1, t2]; simp only [hG.1]; rfl
  have t6 : rqTE 40 B = 0 := by
    unfold rqTE
    rw [t4, t5, t2, t1]; decide
  have t7 : rqDE (closeB plB) = 0 := by
    unfold rqDE
    rw [m1, m2, hopen, hlen, t6]; rfl
  refine ⟨t7, ?_⟩
  unfold rqD
  rw [if_pos t7, m1, m2, hlen, t5]
theorem rf_dec : rpDE (closeB rfB) = 0 ∧ rpD (closeB rfB) = rfR := by
  obtain ⟨B, hB, hBl⟩ : ∃ B, rfB = [65, 78, 82, 49] ++ B ∧ B = putAll (rpHead rfR) := ⟨_, rfl, rfl⟩
  have hlen : B.length = 28 := by rw [hBl]; decide
  have hopen : openE [65, 78, 82, 49] (closeB rfB).length (closeB rfB) = 0 := by rw [hB]; exact openE_close rfl (by omega)
  obtain ⟨m1, m2⟩ := close_mid (mg := [65, 78, 82, 49]) (B := B) rfl
  rw [← hB] at m1 m2
  have hH : takeL 28 B (rpHead rp0) (0, 0) = (rpHead rfR, (28, 0)) := by
    have := (takeL_back (rpHead rfR) (rpHead rp0) 28 B 0 ⟨rfl, trivial, rfl, trivial, rfl, trivial, rfl, trivial, rfl, trivial, trivial⟩ (by intro g hg; simp only [rpHead, List.mem_cons, List.not_mem_nil, or_false] at hg; rcases hg with rfl | rfl | rfl | rfl | rfl <;> exact ⟨by decide, by decide⟩) (by decide) (by rw [hBl]; decide)).1
    exact this
  have t1 : rpH 28 B = (rpHead rfR, (28, 0)) := hH
  have t2 : rp1 28 B = rfR := by unfold rp1; rw [t1]; rfl
  have t3 : rpG (rp1 28 B) = [] := by rw [t2]; rfl
  have t4 : lastE 28 B (rpG (rp1 28 B)) (rpH 28 B).2 = 0 := by
    rw [t3, t1]; unfold lastE; simp only [takeL, takeLE]; rfl
  have t5 : rp2 28 B = rfR := by unfold rp2; rw [t3, t1, t2]; rfl
  have t6 : rpTE 28 B = 0 := by
    unfold rpTE
    rw [t4, t5, t2, t1]; decide
  have t7 : rpDE (closeB rfB) = 0 := by
    unfold rpDE
    rw [m1, m2, hopen, hlen, t6]; rfl
  refine ⟨t7, ?_⟩
  unfold rpD
  rw [if_pos t7, m1, m2, hlen, t5]
end Go.Proofs.YtdkcplndplhblaaGreatDoor
