/- first. -/
import Derived.Test.YtlcjkbhcbiggcaaGreatDoorPk24
import Derived.Test.YtlcjkbhcbiggcaaGreatDoorPk05
import Derived.Laws.OwnMore
import Derived.Test.YtlcjkbhcbiggcaaGreatDoorPk01
namespace Go.Proofs.YtlcjkbhcbiggcaaGreatDoor
open Go.RowKit Go.Maps
set_option maxRecDepth 100000

theorem NwO.take {N : Nat} {T : Nat → Rec} {k : Int} {seq : Nat} {x : Ino} {q : Int} {o : Option (Nat × Rec)} (h : NwO N T k seq x q o) (n : Nat) (hk : kindB k = true) (hn : n < N) (hc : canT (T n) = true) (hb : ∀ j, j < n → canT (T j) = false) : o = some (n, recOf ((T n).gen + 1) (inoN ((T n).gen + 1) n k seq)) ∧ x = inoN ((T n).gen + 1) n k seq ∧ q = 0 := by
  rcases h with ⟨_, _, ⟨_, h⟩ | ⟨_, _, h⟩⟩ | ⟨n', _, _, h3, h4, h5, h6, h7⟩
  · rw [hk] at h; cases h
  · rw [h n hn] at hc; cases hc
  · have : n' = n := by
      rcases Nat.lt_trichotomy n' n with e | e | e
      · rw [hb n' e] at h3; cases h3
      · exact e
      · rw [h4 n e] at hc; cases hc
    subst this
    exact ⟨h5, h6, h7⟩
theorem NwO.full {N : Nat} {T : Nat → Rec} {k : Int} {seq : Nat} {x : Ino} {q : Int} {o : Option (Nat × Rec)} (h : NwO N T k seq x q o) (hk : kindB k = true) (hb : ∀ j, j < N → canT (T j) = false) : o = none ∧ x = ino0 ∧ q = 92 := by
  rcases h with ⟨h1, h2, ⟨_, h⟩ | ⟨h, _, _⟩⟩ | ⟨n', _, h2, h3, _⟩
  · rw [hk] at h; cases h
  · exact ⟨h1, h2, h⟩
  · rw [hb n' h2] at h3; cases h3
theorem GtO.has {l : Lay} {ta N : Nat} {v : Nat → List Int} {T : Nat → Rec} {id : Int} {x : Ino} {q : Int} (h : GtO N T id x q) (ht : Tab l ta N v T) (hN : N ≤ 256) {n : Nat} (hn : Has T N id n) : x = (T n).ino id ∧ q = 0 := by
  rcases h with ⟨h, _⟩ | ⟨k, h, h2, h3⟩
  · exact absurd hn (h n)
  · have h4 := (h.big ht hN).2
    have h5 := (hn.big ht hN).2
    obtain rfl : k = n := by omega
    exact ⟨h2, h3⟩
theorem kind1 : kindB 1 = true := by decide
theorem kind2 : kindB 2 = true := by decide
theorem canT0 : canT rec0 = true := by decide
theorem canT_used {r : Rec} (h : r.kind ≠ 0) : canT r = false := by
  unfold canT
  have : (r.kind == 0) = false := by simpa using h
  rw [this]; rfl
theorem rit_new {l : Lay} {g k : Int} {n seq : Nat} (h0 : 1 ≤ g) (h1 : g ≤ 1099511627776) (k1 : kindB k = true) (hs : (seq : Int) ≤ 4611686018427387904) : Rit l (recOf g (inoN g n k seq)) := by
  have hk : k = 1 ∨ k = 2 := of_decide_eq_true k1
  refine ⟨recOk_new (by omega) h1 hk hs, fun e => ?_, fun _ => ⟨h0, ?_⟩⟩
  · have : k = 0 := e
    omega
  · apply decide_eq_true
    refine ⟨k1, Int.le_refl 0, (by decide : (0 : Int) ≤ 69632), ?_, hs, ?_, ?_⟩
    · show (0 : Int) ≤ (seq : Int)
      omega
    · apply List.all_eq_true.2
      intro i _
      exact decide_eq_true (Or.inl rfl)
    · exact decide_eq_true (Or.inl rfl)
theorem St.took {w0 w w' : World} {wb N : Nat} {c : Kc} {i : Nat} {F : Nat → Prop} {v : Nat → List Int} {ks : List Nat} {m : Nat} {T : Nat → Rec} (h : St w0 w wb N c i F v ks m T) {n : Nat} (hn : n < N) (h1 : (T n).gen < 1099511627776) {k : Int} (hk : kindB k = true) (hsq : (c.seq : Int) ≤ 4611686018427387904) (hz : Rz w w' w.heap.size c i F v ks m 34 (some (n, recOf ((T n).gen + 1) (inoN ((T n).gen + 1) n k c.seq)))) :
    ∃ F' v', St w0 w' wb N c i F' v' (kput ks (34 + n / 4)) (m + 1) (updT T (some (n, recOf ((T n).gen + 1) (inoN ((T n).gen + 1) n k c.seq)))) ∧ Turns F w w' ∧ ∀ i, F' i → F i ∨ w.heap.size ≤ i := by
  have g0 := (h.R.ok n hn).ok.g0
  exact h.step (Nat.le_refl _) (fun n' r' e => by cases e; exact ⟨hn, rit_new (by omega) (by omega) hk hsq⟩) hz
attribute [local go_sem ↓ 100000] in_store in_load
attribute [local go_sem] InStore.newI
set_option maxHeartbeats 4000000 in
theorem first9_ok (w : World) (hB : Bds w) {er : Nat → Addr} (hE : Errs w er) :
    Calls Tryz.prog 8 #[] w fun e w' => e = .returned (.bool true) ∧ Below w.heap.size w w' := by
  go_enter Tryz.func8, Tryz.ntmps8
  go_wp2_with fail
  refine (begin9_ok (N := 2) (by omega) (by omega) w hB hE).mono ?_
  rintro e w1 ⟨wb, c, F, rfl, s1, hsq, _, _⟩
  have hsq' : (c.seq : Int) ≤ 4611686018427387904 := by rw [hsq]; decide
  have HSQ : Hid (c.seq = 1) := hsq
  clear hsq
  go_wp2_with fail
  refine (news9_any s1 2 hsq' (fun n _ _ _ => Or.inr (by decide)) (by omega)).mono ?_
  rintro e w2 ⟨x, q, o, rfl, HO, z2⟩
  obtain ⟨rfl, rfl, rfl⟩ := HO.out.take 0 kind2 (by omega) canT0 (fun j hj => by omega)
  obtain ⟨F2, v2, s2, t2, f2⟩ := s1.took (by omega) (by decide) kind2 hsq' z2
  clear HO z2
  obtain ⟨x1, hx1⟩ : ∃ x, inoN (rec0.gen + 1) 0 2 c.seq = x := ⟨_, rfl⟩
  have HX1 : Hid (x1.id = 256) := by show x1.id = 256; rw [← hx1]; rfl
  have r1 : recOf (rec0.gen + 1) (inoN (rec0.gen + 1) 0 2 c.seq) = recOf 1 x1 := by rw [← hx1]; rfl
  have hk1 : (recOf 1 x1).kind ≠ 0 := by rw [← hx1]; exact (by decide : (2 : Int) ≠ 0)
  rw [r1] at s2
  rw [hx1]
  clear hx1 r1
  obtain ⟨W3, hW3⟩ : ∃ W, w2.alloc (.cells (inA x1) 38) = W := ⟨_, rfl⟩
  have b3 : Below w2.heap.size w2 W3 := by rw [← hW3]; exact (Below.refl _ w2).alloc (Nat.le_refl _) _
  have X3 : InBox W3 w2.heap.size x1 := by rw [← hW3]; exact heap_alloc_last w2 _
  have s3 := s2.below b3
  have n3 : ¬ F2 w2.heap.size := fun q => by have := s2.tv.lt _ q; omega
  clear s2
  go_wp2_with fail
  try rw [hW3]
  go_wp2_with fail
  refine (news9_any s3 1 hsq' (fun n _ _ _ => Or.inr (by decide)) (by omega)).mono ?_
  rintro e w4 ⟨x, q, o, rfl, HO, z4⟩
  have hc1 : canT (updT (fun _ => rec0) (some (0, recOf 1 x1)) 1) = true := canT0
  have hc0 : canT (updT (fun _ => rec0) (some (0, recOf 1 x1)) 0) = false := canT_used hk1
  obtain ⟨rfl, rfl, rfl⟩ := HO.out.take 1 kind1 (by omega) hc1 (fun j hj => by obtain rfl : j = 0 := by omega
                                                                               exact hc0)
  obtain ⟨F4, v4, s4, t4, f4⟩ := s3.took (n := 1) (by omega) (show rec0.gen < 1099511627776 by decide) kind1 hsq' z4
  have X4 : InBox w4 w2.heap.size x1 := (t4.block _ (heap_lt X3) n3).trans X3
  have n4 : ¬ F4 w2.heap.size := fun q => (f4 _ q).elim n3 (fun q => by have := heap_lt X3; omega)
  clear HO z4 X3 t4 s3
  obtain ⟨T1, hT1⟩ : ∃ T, updT (fun _ => rec0) (some (0, recOf 1 x1)) = T := ⟨_, rfl⟩
  have g1 : (T1 1).gen = 0 := by rw [← hT1]; rfl
  rw [hT1] at s4 hc0 ⊢
  clear hc1 hT1
  obtain ⟨x2, hx2⟩ : ∃ x, inoN ((T1 1).gen + 1) 1 1 c.seq = x := ⟨_, rfl⟩
  have HX2 : Hid (x2.id = 257 ∧ x2.kind = 1 ∧ x2.change = 1) := by
    show x2.id = 257 ∧ x2.kind = 1 ∧ x2.change = 1
    rw [← hx2, g1]
    exact ⟨rfl, rfl, by show ((c.seq : Nat) : Int) = 1; rw [HSQ.out]; rfl⟩
  have r2 : recOf ((T1 1).gen + 1) (inoN ((T1 1).gen + 1) 1 1 c.seq) = recOf 1 x2 := by rw [hx2, g1]; rfl
  rw [r2] at s4
  rw [hx2]
  clear hx2 r2 g1
  obtain ⟨W5, hW5⟩ : ∃ W, w4.alloc (.cells (inA x2) 38) = W := ⟨_, rfl⟩
  have b5 : Below w4.heap.size w4 W5 := by rw [← hW5]; exact (Below.refl _ w4).alloc (Nat.le_refl _) _
  have X5 := X4.below b5
  have Y5 : InBox W5 w4.heap.size x2 := by rw [← hW5]; exact heap_alloc_last w4 _
  have s5 := s4.below b5
  have m5 : ¬ F4 w4.heap.size := fun q => by have := s4.tv.lt _ q; omega
  clear s4 X4
  go_wp2_with fail
  try rw [hW5]
  go_wp2_with fail
  have hk2 : (recOf 1 x2).kind ≠ 0 := by show x2.kind ≠ 0; rw [HX2.out.2.1]; decide
  have hcan : ∀ j, j < 2 → canT (updT T1 (some (1, recOf 1 x2)) j) = false := by
    intro j hj
    rcases (show j = 0 ∨ j = 1 by omega) with rfl | rfl
    · exact hc0
    · exact canT_used hk2
  refine (news9_any s5 1 hsq' (fun n hn hc _ => by rw [hcan n hn] at hc; cases hc) (by omega)).mono ?_
  rintro e w6 ⟨x, q, o, rfl, HO, z6⟩
  obtain ⟨rfl, rfl, rfl⟩ := HO.out.full kind1 hcan
  obtain ⟨F6, v6, s6, t6, f6⟩ := s5.step (Nat.le_refl _) (fun _ _ e => by cases e) z6
  have X6 : InBox w6 w2.heap.size x1 := (t6.block _ (heap_lt X5) n4).trans X5
  have Y6 : InBox w6 w4.heap.size x2 := (t6.block _ (heap_lt Y5) m5).trans Y5
  have n6 : ¬ F6 w2.heap.size := fun q => (f6 _ q).elim n4 (fun q => by have := heap_lt X5; omega)
  have m6 : ¬ F6 w4.heap.size := fun q => (f6 _ q).elim m5 (fun q => by have := heap_lt Y5; omega)
  clear HO z6 X5 Y5 s5 t6
  have hU : updT (updT T1 (some (1, recOf 1 x2))) none = updT T1 (some (1, recOf 1 x2)) := rfl
  rw [hU] at s6
  go_wp2_with fail
  obtain ⟨W7, hW7⟩ : ∃ W, w6.alloc (.cells (inA ino0) 38) = W := ⟨_, rfl⟩
  have b7 : Below w6.heap.size w6 W7 := by rw [← hW7]; exact (Below.refl _ w6).alloc (Nat.le_refl _) _
  have X7 := X6.below b7
  have Y7 := Y6.below b7
  have s7 := s6.below b7
  rw [hW7]
  clear s6 X6 Y6 hW7
  refine (gets9_any s7 257).mono ?_
  rintro e w8 ⟨x, q, o, rfl, HO, z8⟩
  have hhas : Has (updT T1 (some (1, recOf 1 x2))) 2 257 1 := ⟨by omega, hk2, by show (1 : Int) * 256 + (1 : Nat) = 257; decide⟩
  obtain ⟨rfl, rfl⟩ := GtO.has HO.out.1 s7.R (by omega) hhas
  obtain rfl := HO.out.2
  obtain ⟨F8, v8, s8, t8, f8⟩ := s7.step (Nat.le_refl _) (fun _ _ e => by cases e) z8
  have X8 : InBox w8 w2.heap.size x1 := (t8.block _ (heap_lt X7) n6).trans X7
  have Y8 : InBox w8 w4.heap.size x2 := (t8.block _ (heap_lt Y7) m6).trans Y7
  clear HO z8 X7 Y7 s7 t8
  obtain ⟨x3, hx3⟩ : ∃ x, (updT T1 (some (1, recOf 1 x2)) 1).ino 257 = x := ⟨_, rfl⟩
  have HX3 : Hid (x3.kind = 1 ∧ x3.change = 1) := by
    show x3.kind = 1 ∧ x3.change = 1
    rw [← hx3]
    exact ⟨HX2.out.2.1, HX2.out.2.2⟩
  rw [hx3]
  clear hx3
  obtain ⟨W9, hW9⟩ : ∃ W, w8.alloc (.cells (inA x3) 38) = W := ⟨_, rfl⟩
  have b9 : Below w8.heap.size w8 W9 := by rw [← hW9]; exact (Below.refl _ w8).alloc (Nat.le_refl _) _
  have X9 := (X8.below b9).cells.c0
  have Y9 := (Y8.below b9).cells.c0
  have Z9 : InBox W9 w8.heap.size x3 := by rw [← hW9]; exact heap_alloc_last w8 _
  have Z1 := Z9.cells.c1
  have Z3 := Z9.cells.c3
  rw [HX1.out] at X9
  rw [HX2.out.1] at Y9
  rw [HX3.out.1, Nat.zero_add] at Z1
  rw [HX3.out.2, Nat.zero_add] at Z3
  have bend := s8.bel.trans (b9.mono s8.bel.size)
  go_wp2_with fail
  try rw [hW9]
  go_wp2_with fail
  go_ret
  exact ⟨rfl, bend⟩
end Go.Proofs.YtlcjkbhcbiggcaaGreatDoor

/- A step of the statements in a box. -/
namespace Go.Proofs.YtlcjkbhcbiggcaaGreatDoor
open Go.RowKit Go.Maps
set_option maxRecDepth 100000

theorem op_size : (Tryz.prog.info? 41).map (·.size) = some 17 := by kernel_rfl
def OpStore (p v : Value) (o : Oper) (a : Act) (w : World) (next : Act → World → Prop) (Q : Exit → Act → World → Prop) : Prop :=
  Oper.wp Tryz.prog { o with op := .store 41 (.const p) (.const v) } a w next Q
theorem op_store (d : Option Tmp) (x y : Operand) (t : TypeId) (p : String) (f : Array Edge) (g : Option (Nat × Bool)) (a : Act) (w : World) (next : Act → World → Prop) (Q : Exit → Act → World → Prop) :
    Oper.wp Tryz.prog ⟨d, .store 41 x y, t, p, f, g⟩ a w next Q = OpStore (a.eval x) (a.eval y) ⟨d, .assign x, t, p, f, g⟩ a w next Q := rfl
theorem OpStore.row {w : World} {b t : Nat} {old cs : Array Value} (h : w.heap[b]? = some (.cells old t (0, 0))) (hs : old.size = 17) (hc : cs.size = 17) (h1 : cs.all (·.oneCell') = true) (o : Oper) (a : Act) (next : Act → World → Prop) (Q : Exit → Act → World → Prop) :
    OpStore (.pointer (some ⟨b, 0, none⟩)) (.agg cs) o a w next Q = next (a.put o.dst undef) (w.setRow b cs) := by
  have e : (Instr.storeAt 41 (.pointer (some ⟨b, 0, none⟩)) (.agg cs)).run Tryz.prog w = .ok () (w.setRow b cs) := by
    simp only [Instr.storeAt, Instr.sureAddr, Sem.run_bind, Sem.run_pure, Result.andThen]
    exact run_storeVar_row w b t 41 old cs h (by rw [hc]; exact op_size) (by rw [hs, hc]) h1
  unfold OpStore Oper.wp execOp
  simp only [Act.eval, Sem.run_bind, e, Result.andThen_ok, Sem.run_pure]
  rfl
theorem OpStore.new (cs C : Array Value) (t : Nat) (hC : C.size = 17) (hc : cs.size = 17) (h1 : cs.all (·.oneCell') = true) (w : World) (o : Oper) (a : Act) (next : Act → World → Prop) (Q : Exit → Act → World → Prop) :
    OpStore (.pointer (some ⟨w.heap.size, 0, none⟩)) (.agg cs) o a (w.alloc (.cells C t)) next Q = next (a.put o.dst undef) (w.alloc (.cells cs t)) := by
  rw [OpStore.row (heap_alloc_last w _) hC hc h1, World.setRow_alloc_new]
theorem OpStore.mid {w : World} {b k : Nat} {cs : Array Value} (h : w.there b k 17) (hc : cs.size = 17) (h1 : cs.all (·.oneCell') = true) (o : Oper) (a : Act) (next : Act → World → Prop) (Q : Exit → Act → World → Prop) :
    OpStore (.pointer (some ⟨b, k, none⟩)) (.agg cs) o a w next Q = next (a.put o.dst undef) (w.setCells b k cs.toList) := by
  have e := run_storeAt_mid (P := Tryz.prog) w b k 41 cs (by rw [hc]; exact h) (by rw [hc]; exact op_size) h1
  unfold OpStore Oper.wp execOp
  simp only [Act.eval, Sem.run_bind, e, Result.andThen_ok, Sem.run_pure]
  rfl
def OpLoad (p : Value) (o : Oper) (a : Act) (w : World) (next : Act → World → Prop) (Q : Exit → Act → World → Prop) : Prop :=
  Oper.wp Tryz.prog { o with op := .load 41 (.const p) } a w next Q
theorem op_load (d : Option Tmp) (x : Operand) (t : TypeId) (p : String) (f : Array Edge) (g : Option (Nat × Bool)) (a : Act) (w : World) (next : Act → World → Prop) (Q : Exit → Act → World → Prop) :
    Oper.wp Tryz.prog ⟨d, .load 41 x, t, p, f, g⟩ a w next Q = OpLoad (a.eval x) ⟨d, .assign x, t, p, f, g⟩ a w next Q := rfl
theorem op_ld {w : World} {b k : Nat} {cs : List Value} (h : w.rangeAt b k cs) (hs : cs.length = 17) : (Instr.loadAt 41 (.pointer (some ⟨b, k, none⟩))).run Tryz.prog w = .ok (.agg cs.toArray) w :=
  run_loadAt_mid w b k 41 cs _ h Tryz.underlying41 rfl (by rw [hs]; exact op_size)
theorem OpLoad.mid {w : World} {b k : Nat} {cs : List Value} (h : w.rangeAt b k cs) (hs : cs.length = 17) (o : Oper) (a : Act) (next : Act → World → Prop) (Q : Exit → Act → World → Prop) :
    OpLoad (.pointer (some ⟨b, k, none⟩)) o a w next Q = next (a.put o.dst (.agg cs.toArray)) w := by
  unfold OpLoad Oper.wp execOp
  simp only [Act.eval, Sem.run_bind, op_ld h hs, Result.andThen_ok, Sem.run_pure]
  rfl
theorem OpLoad.row {w : World} {b t : Nat} {cs : Array Value} (h : w.heap[b]? = some (.cells cs t (0, 0))) (hs : cs.size = 17) (o : Oper) (a : Act) (next : Act → World → Prop) (Q : Exit → Act → World → Prop) :
    OpLoad (.pointer (some ⟨b, 0, none⟩)) o a w next Q = next (a.put o.dst (.agg cs)) w :=
  OpLoad.mid (cs := cs.toList) (fun j v hv => by rw [Nat.zero_add]; simpa [World.cell?, h] using hv) (by simpa using hs) o a next Q
def OpEx (p : Value) : Sem Next := do pure (.value (← Instr.loadAt 41 p))
theorem op_ex (ev : Operand → Value) (d : Option Tmp) (x : Operand) (t : TypeId) (p : String) (f : Array Edge) (g : Option (Nat × Bool)) : execOp ev ⟨d, .load 41 x, t, p, f, g⟩ = OpEx (ev x) := rfl
theorem OpEx.mid {w : World} {b k : Nat} {cs : List Value} (h : w.rangeAt b k cs) (hs : cs.length = 17) : (OpEx (.pointer (some ⟨b, k, none⟩))).run Tryz.prog w = .ok (.value (.agg cs.toArray)) w := by
  unfold OpEx
  simp only [Sem.run_bind, op_ld h hs, Result.andThen_ok, Sem.run_pure]
theorem OpEx.row {w : World} {b t : Nat} {cs : Array Value} (h : w.heap[b]? = some (.cells cs t (0, 0))) (hs : cs.size = 17) : (OpEx (.pointer (some ⟨b, 0, none⟩))).run Tryz.prog w = .ok (.value (.agg cs)) w :=
  OpEx.mid (cs := cs.toList) (fun j v hv => by rw [Nat.zero_add]; simpa [World.cell?, h] using hv) (by simpa using hs)

structure Opn where
  kind : Int
  a : Int
  b : Int
  x : Ino
  ao : Option Addr
  n : Nat
  cap : Nat
def opA (p : Opn) : Array Value := #[.int .i64 p.kind, .int .i64 p.a, .int .i64 p.b, .int .i64 p.x.id, .int .i64 p.x.kind, .int .i64 p.x.size, .int .i64 p.x.change, .int .i64 (p.x.dir 0), .int .i64 (p.x.dir 1), .int .i64 (p.x.dir 2), .int .i64 (p.x.dir 3), .int .i64 (p.x.dir 4), .int .i64 (p.x.dir 5), .int .i64 (p.x.dir 6), .int .i64 (p.x.dir 7), .int .i64 p.x.ind, .slice p.ao p.n p.cap]
abbrev opV (p : Opn) : Value := .agg (opA p)
theorem opA_size (p : Opn) : (opA p).size = 17 := rfl
theorem opA_one (p : Opn) : (opA p).all (·.oneCell') = true := by simp [opA, Value.oneCell']
def OpBox (w : World) (b : Nat) (p : Opn) : Prop := w.heap[b]? = some (.cells (opA p) 41 (0, 0))
theorem OpBox.below {w w' : World} {b : Nat} {p : Opn} (h : OpBox w b p) (t : Below w.heap.size w w') : OpBox w' b p := (t.block b (heap_lt h)).trans h
structure OpC (w : World) (b : Nat) (p : Opn) : Prop where
  c0 : w.cell? ⟨b, 0, none⟩ = some (.int .i64 p.kind)
  c1 : w.cell? ⟨b, 1, none⟩ = some (.int .i64 p.a)
  c2 : w.cell? ⟨b, 2, none⟩ = some (.int .i64 p.b)
  c16 : w.cell? ⟨b, 16, none⟩ = some (.slice p.ao p.n p.cap)
  inr : w.rangeAt b 3 (inA p.x).toList
theorem OpBox.cells {w : World} {b : Nat} {p : Opn} (h : OpBox w b p) : OpC w b p := by
  unfold OpBox at h
  refine ⟨?_, ?_, ?_, ?_, ?_⟩
  all_goals first
    | (simp [World.cell?, h, opA]; done)
    | (intro j v hv
       have hj : j < 13 := by
         have := (List.getElem?_eq_some_iff.1 hv).1
         simpa [inA] using this
       unfold World.cell?
       rw [h]
       show (opA p)[3 + j]? = some v
       rw [← hv]
       obtain rfl | rfl | rfl | rfl | rfl | rfl | rfl | rfl | rfl | rfl | rfl | rfl | rfl : j = 0 ∨ j = 1 ∨ j = 2 ∨ j = 3 ∨ j = 4 ∨ j = 5 ∨ j = 6 ∨ j = 7 ∨ j = 8 ∨ j = 9 ∨ j = 10 ∨ j = 11 ∨ j = 12 := by omega
       all_goals rfl)
theorem OpStore.newO (p : Opn) (o : Oper) (a : Act) (w : World) (next : Act → World → Prop) (Q : Exit → Act → World → Prop) :
    OpStore (.pointer (some ⟨w.heap.size, 0, none⟩)) (.agg (opA p)) o a (w.alloc (.cells #[.int .i64 0, .int .i64 0, .int .i64 0, .int .i64 0, .int .i64 0, .int .i64 0, .int .i64 0, .int .i64 0, .int .i64 0, .int .i64 0, .int .i64 0, .int .i64 0, .int .i64 0, .int .i64 0, .int .i64 0, .int .i64 0, .slice none 0 0] 41)) next Q = next (a.put o.dst undef) (w.alloc (.cells (opA p) 41)) :=
  OpStore.new _ _ _ rfl rfl (opA_one p) w o a next Q
end Go.Proofs.YtlcjkbhcbiggcaaGreatDoor

/- bends. -/
namespace Go.Proofs.YtlcjkbhcbiggcaaGreatDoor
open Go.RowKit Go.Maps
set_option maxRecDepth 100000

theorem splice_step (bs ds : List Int) (off j : Nat) (hj : j < ds.length) (ho : off + j < bs.length) : (splice bs off (ds.take j)).set (off + j) ds[j] = splice bs off (ds.take (j + 1)) := by
  unfold splice
  have l1 : (bs.take off).length = off := by rw [List.length_take]; omega
  have l2 : (ds.take j).length = j := by rw [List.length_take]; omega
  have l3 : (ds.take (j + 1)).length = j + 1 := by rw [List.length_take]; omega
  rw [List.set_append_right _ _ (by omega), l1, Nat.add_sub_cancel_left, List.set_append_right _ _ (by omega), l2, Nat.sub_self, List.drop_eq_getElem_cons ho, List.set_cons_zero, l3, List.take_succ_eq_append_getElem hj, List.append_assoc]
  rfl
/-- What a bend leaves. -/
structure BnR (w w' : World) (c : Kc) (i : Nat) (F : Nat → Prop) (v : Nat → List Int) (ks : List Nat) (m off : Nat) (ds : List Int) : Prop where
  ex : ∃ F', Tv w' c i F' (updF v 34 (splice (v 34) off ds)) (kput ks 34) (m + 1) ∧ ∀ i, F' i → F i ∨ w.heap.size ≤ i
  tr : Turns F w w'
attribute [local go_sem ↓ 100000] op_store op_load
attribute [local go_sem] OpStore.newO
set_option maxHeartbeats 4000000 in
theorem bends9_ok {w0 w : World} {wb N : Nat} {c : Kc} {i : Nat} {F : Nat → Prop} {v : Nat → List Int} {ks : List Nat} {m : Nat} {T : Nat → Rec} (h : St w0 w wb N c i F v ks m T) (p : Opn) (off : Nat) (ds : List Int) (hA : p.a = 0) (hB : p.b = (off : Nat)) (hD : Lies w p.ao p.n p.cap ds) (ho : off + p.n ≤ 512) (hp1 : 1 ≤ p.n) (hy : ∀ x ∈ ds, 0 ≤ x ∧ x ≤ 255) (hdF : ∀ ad, p.ao = some ad → ¬ F ad.block ∧ ad.block < w.heap.size) (hroom : 34 ∈ ks ∨ ks.length < 24) (hm : m ≤ 1000000) :
    Calls Tryz.prog 44 #[.pointer (some ⟨wb, 0, none⟩), opV p] w fun e w' => e = .returned (.bool true) ∧ BnR w w' c i F v ks m off ds := by
  obtain ⟨W1, hW1⟩ : ∃ W, w.alloc (.cells (opA p) 41) = W := ⟨_, rfl⟩
  have b1 : Below w.heap.size w W1 := by rw [← hW1]; exact (Below.refl _ w).alloc (Nat.le_refl _) _
  have O1 : OpBox W1 w.heap.size p := by rw [← hW1]; exact heap_alloc_last w _
  have h1 := h.below b1
  have k1 : W1.cell? ⟨w.heap.size, 1, none⟩ = some (.int .i64 0) := by rw [← hA]; exact O1.cells.c1
  have k2 : W1.cell? ⟨w.heap.size, 2, none⟩ = some (.int .i64 (off : Nat)) := by rw [← hB]; exact O1.cells.c2
  have k16 := O1.cells.c16
  have j7 : W1.cell? ⟨wb, 7, none⟩ = some (.int .i64 34) := h1.B.cells.c7
  obtain ⟨tl, htl⟩ : ∃ tl, (N + 3) / 4 = tl := ⟨_, rfl⟩
  have htl1 : ¬ (tl : Int) = 0 := by have := h.n1; omega
  have htl2 : ¬ tl = 0 := by omega
  have j8 : W1.cell? ⟨wb, 8, none⟩ = some (.int .i64 (tl : Nat)) := by rw [← htl]; exact h1.B.cells.c8
  have j23 := h1.B.cells.c23
  have nF : ∀ j, w.heap.size ≤ j → ¬ F j := fun j hj q => by have := h.tv.lt j q; omega
  have q1 : ¬ (512 : Int) < (off : Int) := by omega
  have q2 : ¬ (512 : Int) - (off : Int) < (p.n : Int) := by omega
  have HH : Hid (p.a = 0 ∧ p.b = (off : Nat)) := ⟨hA, hB⟩
  clear hA hB htl
  go_enter Tryz.func44, Tryz.ntmps44
  go_wp2_with fail
  try rw [hW1]
  go_wp2_with fail
  go_quiet (fail)
  go_wp2_with fail
  have hout : c.out 34 := h.geo.out 0 (by have := h.n1; omega)
  have hd1 : St w0 (W1.drewN nq) wb N c i F v ks m T := h1.keep (Turns.drewN (fun _ => False) W1 nq) (fun _ _ q => q) (fun q => q) ((Turns.drewN (fun _ => False) W1 nq).below (fun _ q => q.elim) h1.bel.size)
  refine (hd1.tv.read 34 hout).mono ?_
  rintro e w2 ⟨g, rfl, hgw, hg, T2, t2⟩
  have hgw' : W1.heap.size ≤ g := hgw
  have O2 : OpBox w2 w.heap.size p := (t2.block _ (heap_lt O1) (nF _ (Nat.le_refl _))).trans O1
  have B2 := hd1.B.turns t2 h.nF
  have t02 : Turns F w w2 := ((Below.turns b1 F).trans (Turns.drewN F W1 nq) (fun _ _ q => q)).trans t2 (fun _ _ q => q)
  have hD2 : Lies w2 p.ao p.n p.cap ds := hD.turns t02 (fun ad e => (hdF ad e).1)
  have hlen := (h.tv.len 34 hout).1
  have hby := (h.tv.len 34 hout).2
  obtain ⟨bs, hbs⟩ : ∃ bs, v 34 = bs := ⟨_, rfl⟩
  have HBS : Hid (v 34 = bs) := hbs
  rw [hbs] at hg hlen hby
  clear hbs k1 k2 k16 j7 j8 j23 hd1 h1
  have zo := heap_lt O1
  go_wp2_with fail
  refine (num9_any _ _).mono ?_
  rintro e wq ⟨rfl, hq⟩
  subst wq
  go_wp2_with fail
  have hoff0 : decide ((off : Int) < 0) = false := decide_eq_false (by omega)
  simp only [hoff0]
  have hpn : ds.length = p.n := hD.hlen
  go_loopw [8] (fun x wr => ∃ j : Nat, j ≤ p.n ∧ x = .int .i64 j ∧ wr.heap[g]? = some (bl (splice bs off (ds.take j))) ∧ Turns (fun i => i = g) w2 wr) (fun x _ => p.n - (intOf x).toNat)
  case atStart =>
    refine ⟨0, by omega, rfl, ?_, Turns.refl _ w2⟩
    rw [hg]
    simp [splice]
  case round =>
    obtain ⟨j, hj, rfl, hgj, tj⟩ := hrel
    have Oj : OpBox wr w.heap.size p := (tj.block _ (heap_lt O2) (by omega)).trans O2
    have Bj := B2.turns tj (fun e => by have := heap_lt h.B; omega)
    have Dj : Lies wr p.ao p.n p.cap ds := hD2.turns tj (fun ad e q => by have := (hdF ad e).2; omega)
    have k16 := Oj.cells.c16
    have k2 : wr.cell? ⟨w.heap.size, 2, none⟩ = some (.int .i64 (off : Nat)) := by rw [← HH.out.2]; exact Oj.cells.c2
    by_cases hjn : j = p.n
    · subst hjn
      have Tj := T2.keep tj (fun i hi e => nF i (by omega) hi)
      have k23 := Bj.cells.c23
      have k20 := Bj.cells.c20
      go_wp2_with fail
      have hl3 : (splice bs off (ds.take p.n)).length = 512 := by rw [length_splice _ _ _ (by rw [List.length_take]; omega)]; exact hlen
      have hy3 := splice_by off hby (r := ds.take p.n) (fun x hx => hy x (List.mem_of_mem_take hx))
      rw [List.take_of_length_le (by omega)] at hl3 hy3 hgj
      refine (Tj.write 34 hout (some ⟨g, 0, none⟩) 512 (splice bs off ds) (Lies.full hgj hl3) hy3 (fun ad e q => by cases e; exact nF g (by omega) q) hroom hm).mono ?_
      rintro e w4 ⟨F', rfl, T4, t4, f1, f2⟩
      have B4 := Bj.turns t4 h.nF
      have k20' := B4.cells.c20
      clear k20 k23
      go_wp2_with fail
      go_ret
      refine ⟨rfl, ⟨F', by rw [HBS.out]; exact T4, fun i hi => (f1 i hi).elim Or.inl (fun q => Or.inr (by have := t02.size; have := tj.size; omega))⟩, (t02.trans tj (fun i hi e => by omega)).trans t4 (fun _ _ q => q)⟩
    · have hlt : (j : Int) < (p.n : Int) := by omega
      obtain ⟨ad, had⟩ : ∃ ad, p.ao = some ad := by
        cases e : p.ao with
        | none => have := (hD.hnone e).1; omega
        | some ad => exact ⟨ad, rfl⟩
      have hjd : j < ds.length := by omega
      have hcell : wr.cell? (ad.add j) = some (.int .u8 (ds[j])) := Dj.hcells ad had j _ (by simp [hjd])
      rw [had] at k16
      have hgl : (splice bs off (ds.take j)).length = 512 := by rw [length_splice _ _ _ (by rw [List.length_take]; omega)]; exact hlen
      have hst : wr.cell? ⟨g, off + j, none⟩ = some (.int .u8 ((splice bs off (ds.take j))[off + j]'(by omega))) := by
        simp [World.cell?, hgj, show off + j < (splice bs off (ds.take j)).length by omega]
      have hfz : wr.frozen? ⟨g, off + j, none⟩ = false := by simp [World.frozen?, hgj]
      have e1 : IntKind.i64.wrap ((off : Int) + j) = off + j := by rw [Go.IntWalk.i64_in _ ⟨by omega, by omega⟩]
      have e2 : ((off : Int) + j).toNat = off + j := by omega
      have e3 : (off : Int) + j < 512 := by omega
      have e4 : 0 ≤ (off : Int) + j := by omega
      go_wp2_with fail
      go_region
      go_wp2_with fail
      have tn : Turns (fun i => i = g) w2 ((wr.setCell ⟨g, off + j, none⟩ (.int .u8 (ds[j]))).drew) := (tj.trans (Turns.cell wr g (off + j) _) (fun _ _ q => q)).trans (Turns.drewN _ _ 1) (fun _ _ q => q)
      refine ⟨⟨j + 1, by omega, rfl, ?_, tn⟩, by simp [intOf]; omega⟩
      show (wr.setCell ⟨g, off + j, none⟩ (.int .u8 (ds[j]))).heap[g]? = _
      rw [heap_setCell_same _ _ _ _ _ _ hgj, ← splice_step bs ds off j hjd (by omega)]
      simp
end Go.Proofs.YtlcjkbhcbiggcaaGreatDoor

/- annexref.Zeros by its contract. -/
namespace Go.Proofs.YtlcjkbhcbiggcaaGreatDoor
open Go.RowKit
set_option maxRecDepth 100000

set_option maxHeartbeats 400000 in
theorem zeros63 (n : Nat) (w : World) (h0 : 0 < n) (hn : n ≤ 100000) :
    Calls Tryz.prog 41 #[.int .i64 n] w fun e w' => Made w e w' n (List.replicate n 0) := by
  obtain ⟨i0, hi, hz0, hz1, hz2⟩ := info_parts Tryz.info5
  have hni : (n : Int) ≤ 100000 := by omega
  go_enter Tryz.func41, Tryz.ntmps41
  go_wp2
  go_loopw [3, 4] (fun v i wr => ∃ k : Nat, k ≤ n ∧ i = .int .i64 k ∧ wr.ownsRow w.heap.size 5 1 v k ((List.replicate k (0 : Int)).map (Value.int .u8)) ∧ Below w.heap.size w wr) (fun _ i _ => n - (intOf i).toNat)
  case atStart => exact ⟨0, Nat.zero_le _, rfl, World.ownsRow_nil _ _ _ _, Below.refl _ _⟩
  case round =>
    obtain ⟨k, hk, rfl, hown, hb⟩ := hrel
    by_cases hlt : k < n
    · go_wp2_with (at_builtin; refine wpList_append_own _ rfl (.tmp 10) (.tmp 11) 39 rfl w.heap.size 5 i0 (.int .u8 0) 1 1 Tryz.underlying39 hi hz0 hz1 hz2 rfl (by decide) _ _ _ rfl (hown.alloc _) ⟨wr.heap.size, 0, none⟩ 1 1 [.int .u8 0] rfl rfl (cell_one_new _ _ _) (by intro u hu; simp at hu; subst hu; rfl) (by unfold maxLen; omega) (by omega) (by have := hb.size; simp; omega) ?_; intro v' w1 hown1 hgrow1 hnil1)
      go_roundw
      case rel =>
        refine ⟨k + 1, by omega, by go_num, ?_, ?_⟩
        · rw [List.replicate_succ', List.map_append]; simpa using hown1
        · exact (hb.alloc hb.size _).grown hgrow1 (by simp; have := hb.size; omega) (fun k hk => (hown.lt k hk).1)
      case measure => simp [intOf]; omega
    · go_wp2
      go_ret
      obtain rfl : k = n := by omega
      rcases hown.2 with ⟨hv, hn0⟩ | ⟨g, cap, cur, hv, r⟩
      · omega
      · subst hv
        exact ⟨g, cap, rfl, hown, hb⟩
end Go.Proofs.YtlcjkbhcbiggcaaGreatDoor

/- plays (a bend), fills. -/
namespace Go.Proofs.YtlcjkbhcbiggcaaGreatDoor
open Go.RowKit Go.Maps
set_option maxRecDepth 100000

attribute [local go_sem ↓ 100000] op_store op_load
attribute [local go_sem] OpStore.newO
set_option maxHeartbeats 4000000 in
theorem plays9_bend {w0 w : World} {wb N : Nat} {c : Kc} {i : Nat} {F : Nat → Prop} {v : Nat → List Int} {ks : List Nat} {m : Nat} {T : Nat → Rec} (h : St w0 w wb N c i F v ks m T) (p : Opn) (off : Nat) (ds : List Int) (hK : p.kind = 10) (hA : p.a = 0) (hB : p.b = (off : Nat)) (hD : Lies w p.ao p.n p.cap ds) (ho : off + p.n ≤ 512) (hp1 : 1 ≤ p.n) (hy : ∀ x ∈ ds, 0 ≤ x ∧ x ≤ 255) (hdF : ∀ ad, p.ao = some ad → ¬ F ad.block ∧ ad.block < w.heap.size) (hroom : 34 ∈ ks ∨ ks.length < 24) (hm : m ≤ 1000000) :
    Calls Tryz.prog 17 #[.pointer (some ⟨wb, 0, none⟩), opV p] w fun e w' => e = .returned (.bool true) ∧ BnR w w' c i F v ks m off ds := by
  obtain ⟨W1, hW1⟩ : ∃ W, w.alloc (.cells (opA p) 41) = W := ⟨_, rfl⟩
  have b1 : Below w.heap.size w W1 := by rw [← hW1]; exact (Below.refl _ w).alloc (Nat.le_refl _) _
  have O1 : OpBox W1 w.heap.size p := by rw [← hW1]; exact heap_alloc_last w _
  have h1 := h.below b1
  have k0 : W1.cell? ⟨w.heap.size, 0, none⟩ = some (.int .i64 10) := by rw [← hK]; exact O1.cells.c0
  have e1 := OpLoad.row O1 (opA_size _)
  have PB := bends9_ok h1 p off ds hA hB (hD.below b1 (Nat.le_refl _)) ho hp1 hy (fun ad e => ⟨(hdF ad e).1, Nat.lt_of_lt_of_le (hdF ad e).2 b1.size⟩) hroom hm
  have HP : Hid (Calls Tryz.prog 44 #[.pointer (some ⟨wb, 0, none⟩), opV p] W1 fun e w' => e = .returned (.bool true) ∧ BnR W1 w' c i F v ks m off ds) := PB
  clear PB hK hA hB
  go_enter Tryz.func17, Tryz.ntmps17
  go_wp2_with fail
  try rw [hW1]
  go_wp2_with fail
  refine HP.out.mono ?_
  rintro e w2 ⟨rfl, R2⟩
  go_wp2_with fail
  go_ret
  obtain ⟨F', T', f'⟩ := R2.ex
  exact ⟨rfl, ⟨F', T', fun i hi => (f' i hi).elim Or.inl (fun q => Or.inr (Nat.le_trans b1.size q))⟩, (Below.turns b1 F).trans R2.tr (fun _ _ q => q)⟩
end Go.Proofs.YtlcjkbhcbiggcaaGreatDoor

/- Bytes with room behind them. -/
namespace Go.Proofs.YtlcjkbhcbiggcaaGreatDoor
open Go.RowKit Go.Maps
set_option maxRecDepth 100000

/-- Bytes, and what lies behind them in the same block. -/
abbrev bt (bs : List Int) (tl : List Value) : Obj := .cells (bs.map (Value.int .u8) ++ tl).toArray 5 (0, 0)
theorem Lies.bt {w : World} {g n c : Nat} {bs : List Int} {tl : List Value} (h : w.heap[g]? = some (bt bs tl)) (hn : bs.length = n) (hc : n ≤ c) : Lies w (some ⟨g, 0, none⟩) n c bs := by
  refine ⟨hn, hc, (fun h => by cases h), fun ad had t u hu => ?_⟩
  obtain rfl := Option.some.inj had
  rw [Addr.add_lit, Nat.zero_add]
  have ht : t < (bs.map (Value.int .u8)).length := (List.getElem?_eq_some_iff.1 hu).1
  simp only [World.cell?, h]
  rw [List.getElem?_toArray, List.getElem?_append_left ht]
  exact hu
theorem own_bt {w : World} {base n : Nat} {v : Value} {bs : List Int} (h : w.ownsRow base 5 1 v n (bs.map (Value.int .u8))) (h0 : 0 < n) : ∃ g tl, v = .slice (some ⟨g, 0, none⟩) n (n + tl.length) ∧ base ≤ g ∧ w.heap[g]? = some (bt bs tl) := by
  rcases h.2 with ⟨_, rfl⟩ | ⟨g, cap, cur, rfl, hg, hh, hnc, _, hcs, htk⟩
  · omega
  · refine ⟨g, cur.toList.drop n, ?_, hg, ?_⟩
    · simp [hcs, Nat.add_sub_cancel' hnc]
    · rw [hh]
      have e : cur.toList = bs.map (Value.int .u8) ++ cur.toList.drop n := by
        conv => lhs; rw [← List.take_append_drop n cur.toList]
        rw [Nat.mul_one] at htk
        rw [htk]
      show some (Obj.cells cur _ _) = some (Obj.cells _ _ _)
      rw [← e]
end Go.Proofs.YtlcjkbhcbiggcaaGreatDoor

/- fills. -/
namespace Go.Proofs.YtlcjkbhcbiggcaaGreatDoor
open Go.RowKit Go.Maps
set_option maxRecDepth 100000

/-- A file of generation 1. -/
def recF : Rec := ⟨1, 1, 0, 0, fun _ => 0, 0⟩
theorem recF_b : recB recF = ((List.replicate 128 (0 : Int)).set 7 1).set 11 1 := by decide +kernel
theorem recF_rit (l : Lay) : Rit l recF := by
  refine ⟨⟨by decide, by decide, by decide, by decide, by decide, by decide, by decide, by decide, (fun _ _ => by show (0 : Int) ≤ 0 ∧ (0 : Int) ≤ 8192; decide), by decide, by decide⟩, fun e => ?_, fun _ => ⟨by decide, ?_⟩⟩
  · exact absurd e (by decide)
  · apply decide_eq_true
    refine ⟨kind1, by decide, by decide, by decide, by decide, ?_, ?_⟩
    · apply List.all_eq_true.2
      intro i _
      exact decide_eq_true (Or.inl rfl)
    · exact decide_eq_true (Or.inl rfl)
theorem St.bend {w0 w w' : World} {wb N : Nat} {c : Kc} {i : Nat} {F : Nat → Prop} {v : Nat → List Int} {ks : List Nat} {m : Nat} {T : Nat → Rec} (h : St w0 w wb N c i F v ks m T) {s : Nat} (hs : s < 4) (hn : s < N) {r : Rec} (hr : Rit (lay9 N) r) {ds : List Int} (hds : splice (v 34) (s * 128) ds = splice (v 34) (s * 128) (recB r)) (hz : BnR w w' c i F v ks m (s * 128) ds) :
    ∃ F' v', St w0 w' wb N c i F' v' (kput ks 34) (m + 1) (updT T (some (s, r))) ∧ Turns F w w' ∧ ∀ i, F' i → F i ∨ w.heap.size ≤ i := by
  obtain ⟨F', T', f'⟩ := hz.ex
  have hb := h.bel
  have hwl := heap_lt h.B
  have hl := (h.tv.len _ (h.geo.out s hn)).1
  rw [hds] at T'
  have hR := h.R.put (n := s) hl hr
  rw [show 34 + s / 4 = 34 by omega, show s % 4 = s by omega] at hR
  refine ⟨F', _, { h with B := h.B.turns hz.tr h.nF, tv := T', R := hR, bel := hb.trans (hz.tr.below h.fnew hb.size), nF := fun q => ?_, fnew := fun j hj => ?_ }, hz.tr, f'⟩
  · rcases f' wb q with q | q
    · exact h.nF q
    · omega
  · rcases f' j hj with q | q
    · exact h.fnew j q
    · have := hb.size
      omega
attribute [local go_sem ↓ 100000] op_store op_load in_store in_load
attribute [local go_sem] InStore.newI
set_option maxHeartbeats 4000000 in
theorem fills9_ok {w0 w : World} {wb N : Nat} {c : Kc} {i : Nat} {F : Nat → Prop} {v : Nat → List Int} {ks : List Nat} {m : Nat} {T : Nat → Rec} (h : St w0 w wb N c i F v ks m T) (s : Nat) (hs : s < 4) (hn : s < N) (hroom : 34 ∈ ks ∨ ks.length < 24) (hm : m ≤ 1000000) :
    Calls Tryz.prog 16 #[.pointer (some ⟨wb, 0, none⟩), .int .i64 (s : Nat)] w fun e w' => e = .returned (.bool true) ∧ ∃ F' v', St w0 w' wb N c i F' v' (kput ks 34) (m + 2) (updT T (some (s, recF))) ∧ Turns F w w' ∧ ∀ i, F' i → F i ∨ w.heap.size ≤ i := by
  go_enter Tryz.func16, Tryz.ntmps16
  go_wp2_with fail
  refine (zeros63 128 w (by omega) (by omega)).mono ?_
  rintro e w1 ⟨g, cap, rfl, o1, b1⟩
  obtain ⟨gb, tl, hv, hgb, hgh⟩ := own_bt o1 (by decide)
  obtain ⟨e1, e2⟩ : g = gb ∧ cap = 128 + tl.length := by
    injection hv with h1 h2 h3
    injection h1 with h1
    injection h1 with h1
    exact ⟨h1, h3⟩
  subst e1
  subst e2
  have k7 : w1.cell? ⟨g, 7, none⟩ = some (.int .u8 0) := by simp [World.cell?, hgh]
  have f7 : w1.frozen? ⟨g, 7, none⟩ = false := by simp [World.frozen?, hgh]
  obtain ⟨W2, hW2⟩ : ∃ W, w1.setCell ⟨g, 7, none⟩ (.int .u8 1) = W := ⟨_, rfl⟩
  have g2 : W2.heap[g]? = some (bt ((List.replicate 128 (0 : Int)).set 7 1) tl) := by
    rw [← hW2, heap_setCell_same _ _ _ _ _ _ hgh]
    rfl
  have k11 : W2.cell? ⟨g, 11, none⟩ = some (.int .u8 0) := by simp [World.cell?, g2]
  have f11 : W2.frozen? ⟨g, 11, none⟩ = false := by simp [World.frozen?, g2]
  obtain ⟨W3, hW3⟩ : ∃ W, W2.setCell ⟨g, 11, none⟩ (.int .u8 1) = W := ⟨_, rfl⟩
  have g3 : W3.heap[g]? = some (bt (recB recF) tl) := by
    rw [← hW3, heap_setCell_same _ _ _ _ _ _ g2, recF_b]
    rfl
  have t3 : Turns (fun i => i = g) w1 W3 := (show Turns (fun i => i = g) w1 W2 by rw [← hW2]; exact Turns.cell w1 g 7 _).trans (by rw [← hW3]; exact Turns.cell W2 g 11 _) (fun _ _ q => q)
  have b3 : Below w.heap.size w W3 := b1.trans (t3.below (fun i e => e ▸ hgb) b1.size)
  have h3 := h.below b3
  have hsI : (s : Int) < 4 := by omega
  clear hv o1 hgh
  go_wp2_with fail
  try rw [hW2]
  go_wp2_with fail
  try rw [hW3]
  go_wp2_with fail
  have nFg : ¬ F g := fun q => by have := h.tv.lt g q; omega
  refine (plays9_bend h3 ⟨10, 0, 128 * (s : Int), ino0, some ⟨g, 0, none⟩, 128, 128 + tl.length⟩ (s * 128) (recB recF) rfl rfl (by show 128 * (s : Int) = ((s * 128 : Nat) : Int); omega) (Lies.bt g3 (recB_len _) (by show 128 ≤ 128 + tl.length; omega)) (by show s * 128 + 128 ≤ 512; omega) (by show 1 ≤ 128; omega) (recB_by _) (fun ad e => by cases e; exact ⟨nFg, heap_lt g3⟩) hroom hm).mono ?_
  rintro e w4 ⟨rfl, R4⟩
  obtain ⟨F4, v4, s4, t4, f4⟩ := h3.bend hs hn (recF_rit _) rfl R4
  have hw : IntKind.i64.wrap (256 + (s : Int)) = 256 + s := by rw [Go.IntWalk.i64_in _ ⟨by omega, by omega⟩]
  go_wp2_with fail
  refine (gets9_any s4 (256 + (s : Int))).mono ?_
  rintro e w5 ⟨x, q, o, rfl, HO, z5⟩
  have hhas : Has (updT T (some (s, recF))) N (256 + (s : Int)) s := by
    have e0 : updT T (some (s, recF)) s = recF := by simp [updT]
    refine ⟨hn, by rw [e0]; decide, ?_⟩
    rw [e0]
    show (1 : Int) * 256 + (s : Int) = 256 + s
    omega
  obtain ⟨rfl, rfl⟩ := GtO.has HO.out.1 s4.R s4.n2 hhas
  obtain rfl := HO.out.2
  obtain ⟨F5, v5, s5, t5, f5⟩ := s4.step (Nat.le_refl _) (fun _ _ e => by cases e) z5
  have e0 : (updT T (some (s, recF)) s).ino (256 + (s : Int)) = recF.ino (256 + s) := by simp [updT]
  rw [e0]
  obtain ⟨x, hx⟩ : ∃ x, recF.ino (256 + (s : Int)) = x := ⟨_, rfl⟩
  have hxk : x.kind = 1 := by rw [← hx]; rfl
  rw [hx]
  clear hx e0
  obtain ⟨W6, hW6⟩ : ∃ W, w5.alloc (.cells (inA x) 38) = W := ⟨_, rfl⟩
  have b6 : Below w5.heap.size w5 W6 := by rw [← hW6]; exact (Below.refl _ w5).alloc (Nat.le_refl _) _
  have X6 : InBox W6 w5.heap.size x := by rw [← hW6]; exact heap_alloc_last w5 _
  have k1 := X6.cells.c1
  rw [Nat.zero_add, hxk] at k1
  clear hxk
  go_wp2_with fail
  try rw [hW6]
  go_wp2_with fail
  go_ret
  refine ⟨rfl, F5, v5, s5.below b6, (((Below.turns b3 F).trans t4 (fun _ _ q => q)).trans t5 (fun j hj q => (f4 j q).elim id (fun q => by have := b3.size; omega))).trans (Below.turns b6 F) (fun _ _ q => q), fun j hj => (f5 j hj).elim (fun q => (f4 j q).elim Or.inl (fun q => Or.inr (Nat.le_trans b3.size q))) (fun q => Or.inr (by have := b3.size; have := t4.size; omega))⟩
end Go.Proofs.YtlcjkbhcbiggcaaGreatDoor

/- InodeLast. -/
namespace Go.Proofs.YtlcjkbhcbiggcaaGreatDoor
open Go.RowKit Go.Maps
set_option maxRecDepth 100000

/-- The slots below s are filled, but for one. -/
def filT (slot s : Nat) : Nat → Rec := fun k => if k < s ∧ k ≠ slot then recF else rec0
theorem filT_step (slot s : Nat) (h : s ≠ slot) : updT (filT slot s) (some (s, recF)) = filT slot (s + 1) := by
  funext k
  unfold updT filT
  by_cases e : k = s
  · subst e
    simp [h]
  · simp only [e, if_false]
    by_cases q : k < s ∧ k ≠ slot
    · rw [if_pos q, if_pos ⟨by omega, q.2⟩]
    · rw [if_neg q, if_neg (fun r => q ⟨by omega, r.2⟩)]
theorem filT_skip (slot : Nat) : filT slot slot = filT slot (slot + 1) := by
  funext k
  unfold filT
  by_cases q : k < slot ∧ k ≠ slot
  · rw [if_pos q, if_pos ⟨by omega, q.2⟩]
  · rw [if_neg q, if_neg (fun r => q ⟨by omega, r.2⟩)]
theorem k34 {ks : List Nat} (h : ks = [] ∨ ks = [34]) : kput ks 34 = [34] := by
  rcases h with rfl | rfl <;> decide
theorem k34r {ks : List Nat} (h : ks = [] ∨ ks = [34]) : 34 ∈ ks ∨ ks.length < 24 := by
  rcases h with rfl | rfl <;> simp
theorem splice_gen (bs : List Int) (o : Nat) (r : Rec) (g : Int) (h : (bs.drop o).take 128 = recB r) : splice bs o (be g 8) = splice bs o (recB { r with gen := g }) := by
  have e1 : recB { r with gen := g } = be g 8 ++ (recB r).drop 8 := rfl
  have e2 : (recB r).drop 8 = (bs.drop (o + 8)).take 120 := by rw [← h, List.drop_take, List.drop_drop]
  unfold splice
  rw [recB_len, e1, e2, be_length, List.append_assoc]
  congr 2
  have q := List.take_append_drop 120 (bs.drop (o + 8))
  rw [List.drop_drop] at q
  rw [show o + 128 = o + 8 + 120 by omega]
  exact q.symm
/-- The one slot left has a generation. -/
def lasT (sl : Nat) (g : Int) : Nat → Rec := fun q => if q = sl then { rec0 with gen := g } else filT sl 4 q
theorem lasT_0 (sl : Nat) (g : Int) : updT (filT sl 4) (some (sl, { rec0 with gen := g })) = lasT sl g := rfl
theorem lasT_at (sl : Nat) (g : Int) : lasT sl g sl = { rec0 with gen := g } := by simp [lasT]
theorem lasT_off (sl : Nat) (g : Int) (q : Nat) (h4 : q < 4) (hn : q ≠ sl) : canT (lasT sl g q) = false := by
  have : lasT sl g q = recF := by simp [lasT, filT, hn, h4]
  rw [this]
  decide
theorem lasT_upd (sl : Nat) (g : Int) (r : Rec) (g' : Int) : updT (updT (lasT sl g) (some (sl, r))) (some (sl, { rec0 with gen := g' })) = lasT sl g' := by
  funext q
  unfold updT lasT
  by_cases e : q = sl <;> simp [e]
theorem rit_gen {l : Lay} {g : Int} (h0 : 0 ≤ g) (h1 : g ≤ 1099511627776) : Rit l { rec0 with gen := g } :=
  ⟨recOk_free h0 h1, fun _ => rfl, fun h => absurd rfl h⟩
theorem FrO.has {l : Lay} {ta N : Nat} {v : Nat → List Int} {T : Nat → Rec} {id : Int} {q : Int} {o : Option (Nat × Rec)} (h : FrO N T id q o) (ht : Tab l ta N v T) (hN : N ≤ 256) {n : Nat} (hn : Has T N id n) : o = some (n, { rec0 with gen := (T n).gen }) ∧ q = 0 := by
  rcases h with ⟨h, _⟩ | ⟨k, h, h2, h3⟩
  · exact absurd hn (h n)
  · have h4 := (h.big ht hN).2
    have h5 := (hn.big ht hN).2
    obtain rfl : k = n := by omega
    exact ⟨h2, h3⟩
attribute [local go_sem ↓ 100000] in_store in_load
attribute [local go_sem] InStore.newI
set_option maxHeartbeats 8000000 in
theorem last9_any (n slot : Int) (w : World) (hB : Bds w) {er : Nat → Addr} (hE : Errs w er) :
    Calls Tryz.prog 4 #[.int .i64 n, .int .i64 slot] w fun e w' => e = .returned (.bool true) ∧ Below w.heap.size w w' := by
  by_cases h1 : 0 ≤ n
  case neg =>
    have h1n := Int.not_le.1 h1
    go_enter Tryz.func4, Tryz.ntmps4
    go_wp2_with fail
    refine (first9_ok w hB hE).mono ?_
    rintro e w1 ⟨rfl, b1⟩
    go_wp2_with fail
    go_ret
    exact ⟨rfl, b1⟩
  by_cases h2 : n ≤ 5
  case neg =>
    have h2n := Int.not_le.1 h2
    go_enter Tryz.func4, Tryz.ntmps4
    go_wp2_with fail
    refine (first9_ok w hB hE).mono ?_
    rintro e w1 ⟨rfl, b1⟩
    go_wp2_with fail
    go_ret
    exact ⟨rfl, b1⟩
  by_cases h3 : 0 ≤ slot
  case neg =>
    have h3n := Int.not_le.1 h3
    go_enter Tryz.func4, Tryz.ntmps4
    go_wp2_with fail
    refine (first9_ok w hB hE).mono ?_
    rintro e w1 ⟨rfl, b1⟩
    go_wp2_with fail
    go_ret
    exact ⟨rfl, b1⟩
  by_cases h4 : slot ≤ 3
  case neg =>
    have h4n := Int.not_le.1 h4
    go_enter Tryz.func4, Tryz.ntmps4
    go_wp2_with fail
    refine (first9_ok w hB hE).mono ?_
    rintro e w1 ⟨rfl, b1⟩
    go_wp2_with fail
    go_ret
    exact ⟨rfl, b1⟩
  go_enter Tryz.func4, Tryz.ntmps4
  go_wp2_with fail
  refine (first9_ok w hB hE).mono ?_
  rintro e w1 ⟨rfl, b1⟩
  go_wp2_with fail
  have hB1 := hB.later b1 (Nat.le_refl _)
  have hE1 := hE.below b1 (Nat.le_refl _)
  refine (begin9_ok (N := 4) (by omega) (by omega) w1 hB1 hE1).mono ?_
  rintro e w2 ⟨wb, c, F, rfl, s2, hsq, _, _⟩
  have hsq' : (c.seq : Int) ≤ 4611686018427387904 := by rw [hsq]; decide
  clear hsq
  obtain ⟨sl, rfl⟩ : ∃ sl : Nat, slot = (sl : Nat) := ⟨slot.toNat, by omega⟩
  obtain ⟨k, rfl⟩ : ∃ k : Nat, n = (k : Nat) := ⟨n.toNat, by omega⟩
  have hsl : sl ≤ 3 := by omega
  have hk5 : k ≤ 5 := by omega
  go_wp2_with fail
  have d1 : decide ((k : Int) < 0) = false := decide_eq_false (by omega)
  have d2 : decide (5 < (k : Int)) = false := decide_eq_false (by omega)
  have d3 : decide ((sl : Int) < 0) = false := decide_eq_false (by omega)
  have d4 : decide (3 < (sl : Int)) = false := decide_eq_false (by omega)
  try simp only [d1]
  try simp only [d2]
  try simp only [d3]
  try simp only [d4]
  try simp only [Bool.or_false]
  clear d1 d2 d3 d4 h1 h2 h3 h4
  go_loopw [7] (fun x wr => ∃ (s : Nat) (F : Nat → Prop) (v : Nat → List Int) (ks : List Nat) (m : Nat), s ≤ 4 ∧ x = .int .i64 s ∧ St w1 wr wb 4 c 0 F v ks m (filT sl s) ∧ (ks = [] ∨ ks = [34]) ∧ m ≤ 2 * s) (fun x _ => 4 - (intOf x).toNat)
  case atStart =>
    refine ⟨0, F, (fun _ => zB), [], 0, by omega, rfl, ?_, Or.inl rfl, by omega⟩
    have : filT sl 0 = fun _ => rec0 := by funext k; simp [filT]
    rw [this]
    exact s2
  case round =>
    obtain ⟨s, F, v, ks, m, hs4, rfl, S3, hks, hm⟩ := hrel
    clear s2
    by_cases hs : s = 4
    · subst hs
      obtain ⟨gM, hgM⟩ : ∃ gM : Int, 1099511627776 - (k : Int) = gM := ⟨_, rfl⟩
      have hgw : IntKind.i64.wrap (1099511627776 - (k : Int)) = gM := by rw [Go.IntWalk.i64_in _ ⟨by omega, by omega⟩, hgM]
      obtain ⟨i0, hi, hz0, hz1, hz2⟩ := info_parts Tryz.info5
      obtain ⟨wa, hwa⟩ : ∃ wa, wa = wr := ⟨wr, rfl⟩
      subst hwa
      have hFl := S3.tv.lt
      have hsz1 := S3.bel.size
      have hbz := heap_lt S3.B
      go_wp2_with fail
      go_loopw [9, 10] (fun lv x wq => ∃ t : Nat, t ≤ 8 ∧ x = .int .i64 (7 - (t : Int)) ∧ St w1 wq wb 4 c 0 F v ks m (filT sl 4) ∧ wq.ownsRow wa.heap.size 5 1 lv t (((be gM 8).take t).map (Value.int .u8)) ∧ wa.heap.size ≤ wq.heap.size) (fun _ x _ => (intOf x + 1).toNat)
      case atStart => exact ⟨0, by omega, rfl, S3, World.ownsRow_nil _ _ _ _, Nat.le_refl _⟩
      case round =>
        obtain ⟨t, ht, rfl, S4, o4, z4⟩ := hrel
        clear S3
        by_cases ht8 : t = 8
        · subst ht8
          obtain ⟨gb, tl, rfl, hgb, hgh⟩ := own_bt o4 (by decide)
          rw [List.take_of_length_le (by rw [be_length]; omega)] at hgh
          go_wp2_with fail
          have nFg : ¬ F gb := fun q => by have := hFl gb q; omega
          refine (plays9_bend S4 ⟨10, 0, 128 * (sl : Int), ino0, some ⟨gb, 0, none⟩, 8, 8 + tl.length⟩ (sl * 128) (be gM 8) rfl rfl (by show 128 * (sl : Int) = ((sl * 128 : Nat) : Int); omega) (Lies.bt hgh (be_length _ _) (by show 8 ≤ 8 + tl.length; omega)) (by show sl * 128 + 8 ≤ 512; omega) (by show 1 ≤ 8; omega) (be_by _ _) (fun ad e => by cases e; exact ⟨nFg, heap_lt hgh⟩) (k34r hks) (by omega)).mono ?_
          rintro e w5 ⟨rfl, R5⟩
          have hrc := S4.R.rc sl (by omega)
          rw [show 34 + sl / 4 = 34 by omega, show sl % 4 = sl by omega] at hrc
          have hT0 : filT sl 4 sl = rec0 := by simp [filT]
          rw [hT0] at hrc
          have hl34 := (S4.tv.len 34 (S4.geo.out 0 (by omega))).1
          obtain ⟨F5, v5, S5, t5, f5⟩ := S4.bend (by omega) (by omega) (rit_gen (g := gM) (by omega) (by omega)) (splice_gen (v 34) (sl * 128) _ gM hrc) R5
          rw [k34 hks, lasT_0] at S5
          clear R5 hrc hgh o4 S4 hgw
          go_wp2_with fail
          go_loopw [11] (fun x wq => ∃ (t : Nat) (F : Nat → Prop) (v : Nat → List Int) (m : Nat), t ≤ k ∧ x = .int .i64 ((t : Int) + 1) ∧ St w1 wq wb 4 c 0 F v [34] m (lasT sl (gM + t)) ∧ m ≤ 9 + 4 * t) (fun x _ => k + 1 - (intOf x).toNat)
          case atStart => exact ⟨0, F5, v5, m + 1, by omega, rfl, by simpa using S5, by omega⟩
          case round =>
            obtain ⟨t, F6, v6, m6, htk, rfl, S6, hm6⟩ := hrel
            clear S5
            have hg6 : (lasT sl (gM + t) sl).gen = gM + t := by rw [lasT_at]
            by_cases hend : t = k
            · subst hend
              have hcan : ∀ j, j < 4 → canT (lasT sl (gM + t) j) = false := by
                intro j hj
                by_cases e : j = sl
                · subst e
                  rw [lasT_at]
                  have : ¬ gM + (t : Int) < 1099511627776 := by omega
                  simp [canT, this]
                · exact lasT_off sl _ j hj e
              have hle : ¬ (t : Int) + 1 ≤ (t : Int) := by omega
              go_wp2_with fail
              refine (news9_any S6 2 hsq' (fun n hn hc _ => by rw [hcan n hn] at hc; cases hc) (by omega)).mono ?_
              rintro e w7 ⟨x, q, o, rfl, HO, z7⟩
              obtain ⟨rfl, rfl, rfl⟩ := HO.out.full kind2 hcan
              obtain ⟨F7, v7, S7, t7, f7⟩ := S6.step (Nat.le_refl _) (fun _ _ e => by cases e) z7
              have b7 := (S7.bel.alloc S7.bel.size (.cells (inA ino0) 38))
              have b07 := b1.trans (b7.mono b1.size)
              go_wp2_with fail
              go_ret
              exact ⟨rfl, b07⟩
            · have hle : (t : Int) + 1 ≤ (k : Int) := by omega
              have hc : canT (lasT sl (gM + t) sl) = true := by
                rw [lasT_at]
                have : gM + (t : Int) < 1099511627776 := by omega
                simp [canT, rec0, this]
              have hlo : ∀ j, j < sl → canT (lasT sl (gM + t) j) = false := fun j hj => lasT_off sl _ j (by omega) (by omega)
              go_wp2_with fail
              refine (news9_any S6 2 hsq' (fun n hn _ _ => Or.inl (by rw [show 34 + n / 4 = 34 by omega]; simp)) (by omega)).mono ?_
              rintro e w7 ⟨x, q, o, rfl, HO, z7⟩
              obtain ⟨rfl, rfl, rfl⟩ := HO.out.take sl kind2 (by omega) hc hlo
              obtain ⟨F7, v7, S7, t7, f7⟩ := S6.took (n := sl) (by omega) (by rw [hg6]; omega) kind2 hsq' z7
              rw [hg6] at S7 ⊢
              obtain ⟨x, hx⟩ : ∃ x, inoN (gM + t + 1) sl 2 c.seq = x := ⟨_, rfl⟩
              have hxi : x.id = (gM + t + 1) * 256 + (sl : Int) := by rw [← hx]; rfl
              have hxk : x.kind = 2 := by rw [← hx]; rfl
              rw [hx] at S7 ⊢
              clear hx HO z7 S6
              rw [show 34 + sl / 4 = 34 by omega, k34 (Or.inr rfl)] at S7
              obtain ⟨W8, hW8⟩ : ∃ W, w7.alloc (.cells (inA x) 38) = W := ⟨_, rfl⟩
              have b8 : Below w7.heap.size w7 W8 := by rw [← hW8]; exact (Below.refl _ w7).alloc (Nat.le_refl _) _
              have X8 : InBox W8 w7.heap.size x := by rw [← hW8]; exact heap_alloc_last w7 _
              have S8 := S7.below b8
              have k0 := X8.cells.c0
              obtain ⟨xi, hxi2⟩ : ∃ xi : Int, (gM + t + 1) * 256 + (sl : Int) = xi := ⟨_, rfl⟩
              rw [hxi, hxi2] at k0
              have hid : 256 * (gM + ((t : Int) + 1)) + (sl : Int) = xi := by omega
              have v1 : IntKind.i64.wrap (gM + ((t : Int) + 1)) = gM + ((t : Int) + 1) := by rw [Go.IntWalk.i64_in _ ⟨by omega, by omega⟩]
              have v2 : IntKind.i64.wrap (256 * (gM + ((t : Int) + 1))) = 256 * (gM + ((t : Int) + 1)) := by rw [Go.IntWalk.i64_in _ ⟨by omega, by omega⟩]
              have v3 : IntKind.i64.wrap (256 * (gM + ((t : Int) + 1)) + (sl : Int)) = xi := by rw [Go.IntWalk.i64_in _ ⟨by omega, by omega⟩, hid]
              have hhas : Has (updT (lasT sl (gM + t)) (some (sl, recOf (gM + t + 1) x))) 4 xi sl := by
                have e0 : updT (lasT sl (gM + t)) (some (sl, recOf (gM + t + 1) x)) sl = recOf (gM + t + 1) x := by simp [updT]
                refine ⟨by omega, ?_, ?_⟩
                · rw [e0]
                  show x.kind ≠ 0
                  rw [hxk]
                  decide
                · rw [e0]
                  exact hxi2
              clear hxi hxi2 hid hxk S7
              go_wp2_with fail
              try rw [hW8]
              go_wp2_with fail
              refine (frees9_any S8 xi (fun n hn => Or.inl (by have := hn.lt; rw [show 34 + n / 4 = 34 by omega]; simp)) (by omega)).mono ?_
              rintro e w9 ⟨q, o, rfl, HO, z9⟩
              obtain ⟨rfl, rfl⟩ := FrO.has HO.out S8.R S8.n2 hhas
              obtain ⟨F9', v9, S9', t9, f9⟩ := S8.step (Nat.le_refl _) (fun n' r' e => by
                cases e
                have e0 : (updT (lasT sl (gM + t)) (some (sl, recOf (gM + t + 1) x)) sl).gen = gM + t + 1 := by simp [updT, recOf]
                rw [e0]
                exact ⟨by omega, rit_gen (by omega) (by omega)⟩) z9
              have e0 : (updT (lasT sl (gM + t)) (some (sl, recOf (gM + t + 1) x)) sl).gen = gM + t + 1 := by simp [updT, recOf]
              rw [e0, lasT_upd] at S9'
              have ek : keyO [34] (some (sl, ({ rec0 with gen := gM + t + 1 } : Rec))) = [34] := by
                show kput [34] (34 + sl / 4) = [34]
                rw [show 34 + sl / 4 = 34 by omega, k34 (Or.inr rfl)]
              rw [ek] at S9'
              clear HO z9 S8 v1 v2 v3 k0 hhas
              go_wp2_with fail
              have S10 : St w1 w9 wb 4 c 0 F9' v9 [34] (m6 + 1 + 1) (lasT sl (gM + ((t + 1 : Nat) : Int))) := by
                rw [show gM + ((t + 1 : Nat) : Int) = gM + t + 1 by omega]
                exact S9'
              have REL : ∃ (t' : Nat) (F : Nat → Prop) (v : Nat → List Int) (m : Nat), t' ≤ k ∧ Value.int .i64 ((t : Int) + 1 + 1) = .int .i64 ((t' : Int) + 1) ∧ St w1 w9 wb 4 c 0 F v [34] m (lasT sl (gM + t')) ∧ m ≤ 9 + 4 * t' := ⟨t + 1, F9', v9, m6 + 1 + 1, by omega, by congr 1, S10, by omega⟩
              refine ⟨?_, by simp [intOf]; omega⟩
              first
                | exact REL
                | (repeat apply Exists.intro
                   exact And.intro REL rfl)
        · have h0 : (0 : Int) ≤ 7 - (t : Int) := by omega
          have bq : Below wr.heap.size wr (wr.alloc (.cells #[.int .u8 (gM / 2 ^ (8 * (7 - t)) % 256)] 5)) := (Below.refl _ wr).alloc (Nat.le_refl _) _
          have oq := own_on o4 bq
          go_wp2_with (at_builtin; refine wpList_append_own _ rfl _ _ 39 rfl wa.heap.size 5 i0 (.int .u8 0) 1 1 Tryz.underlying39 hi hz0 hz1 hz2 rfl (by decide) u9 _ _ rfl oq ⟨wr.heap.size, 0, none⟩ 1 1 [.int .u8 (gM / 2 ^ (8 * (7 - t)) % 256)] rfl rfl (World.news_of_block (heap_alloc_last wr _)) (by intro u hu; simp at hu; subst hu; rfl) (by unfold maxLen; omega) (by omega) (by simp; omega) ?_; intro lv7 w7 o7 gr7 _)
          have t7 : Turns (fun b => u9.ownBlock = some b) wr w7 := (Below.turns bq _).trans (Turns.grown gr7 (fun b hb => hb)) (fun _ _ q => q)
          have S7 : St w1 w7 wb 4 c 0 F v ks m (filT sl 4) := S4.keep t7 (fun j hj q => by have := own_base o4 q; have := hFl j hj; omega) (fun q => own_typeJ o4 S4.B (by decide) q) (t7.below (fun j q => by have := own_base o4 q; omega) S4.bel.size)
          have REL : ∃ t' : Nat, t' ≤ 8 ∧ Value.int .i64 (7 - (t : Int) - 1) = .int .i64 (7 - (t' : Int)) ∧ St w1 w7 wb 4 c 0 F v ks m (filT sl 4) ∧ w7.ownsRow wa.heap.size 5 1 lv7 t' (((be gM 8).take t').map (Value.int .u8)) ∧ wa.heap.size ≤ w7.heap.size := by
            refine ⟨t + 1, by omega, by congr 1; omega, S7, ?_, by have := t7.size; omega⟩
            have hx : (be gM 8).take (t + 1) = (be gM 8).take t ++ [gM / 2 ^ (8 * (7 - t)) % 256] := by
              obtain rfl | rfl | rfl | rfl | rfl | rfl | rfl | rfl : t = 0 ∨ t = 1 ∨ t = 2 ∨ t = 3 ∨ t = 4 ∨ t = 5 ∨ t = 6 ∨ t = 7 := by omega
              all_goals rfl
            rw [hx, List.map_append]
            exact o7
          refine ⟨?_, by simp [intOf]; omega⟩
          first
            | exact REL
            | (repeat apply Exists.intro
               exact And.intro REL rfl)
    · have hlt : (s : Int) < 4 := by omega
      by_cases hsl' : s = sl
      · subst hsl'
        have HF := filT_skip s
        rw [HF] at S3
        clear HF
        go_wp2_with fail
        exact ⟨⟨s + 1, F, v, ks, m, by omega, rfl, S3, hks, by omega⟩, by simp [intOf]; omega⟩
      · have hne : ¬ (s : Int) = (sl : Int) := by omega
        go_wp2_with fail
        refine (fills9_ok S3 s (by omega) (by omega) (k34r hks) (by omega)).mono ?_
        rintro e w3 ⟨rfl, F4, v4, S4, t4, f4⟩
        rw [k34 hks, filT_step sl s hsl'] at S4
        go_wp2_with fail
        exact ⟨⟨s + 1, F4, v4, [34], m + 2, by omega, rfl, S4, Or.inr rfl, by omega⟩, by simp [intOf]; omega⟩
end Go.Proofs.YtlcjkbhcbiggcaaGreatDoor
