/- The play, with blocks that a call holds for itself; mark by its contract; a step's operands. -/
import Derived.Test.YtejfbjjhnhlagaaPP1
import Derived.Deep.AppendLies
import Derived.Deep.RegionLaw
namespace Go.Proofs.Ytejfbjjhnhlagaa
open Go.RowKit Go.Maps
set_option maxRecDepth 100000

/-- The play; the blocks of P are nobody's. -/
def Pz (w : World) (base yb : Nat) (s : Int) (N : Nat) (a b : Nat → Value) (T : Nat → Option PairT) (bv : Value) (es : List Ke) (P : Nat → Prop) : Prop := ∃ L, Py w base L yb s N a b T bv es ∧ ∀ i, P i → L i = 0 ∧ base ≤ i ∧ i < w.heap.size
/-- What lies below the base, and the blocks of P, have not turned. -/
structure Fr (P : Nat → Prop) (base : Nat) (w w' : World) : Prop where
  blw : Below base w w'
  free : ∀ i, P i → w'.heap[i]? = w.heap[i]?
theorem Fr.trans {P Q : Nat → Prop} {base : Nat} {a b c : World} (h : Fr P base a b) (k : Fr Q base b c) (hQ : ∀ i, P i → Q i) : Fr P base a c := ⟨h.blw.trans k.blw, fun i hi => (k.free i (hQ i hi)).trans (h.free i hi)⟩
theorem Fr.cell {P : Nat → Prop} {base : Nat} {w w' : World} (h : Fr P base w w') {i o : Nat} {v : Value} (hi : P i) (hc : w.cell? ⟨i, o, none⟩ = some v) : w'.cell? ⟨i, o, none⟩ = some v := (World.cell?_of_block (h.free i hi)).trans hc
theorem Fr.blk {P : Nat → Prop} {base : Nat} {w w' : World} (h : Fr P base w w') {i : Nat} {o : Obj} (hi : P i) (hc : w.heap[i]? = some o) : w'.heap[i]? = some o := (h.free i hi).trans hc
theorem Pz.less {w : World} {base yb : Nat} {s : Int} {N : Nat} {a b : Nat → Value} {T : Nat → Option PairT} {bv : Value} {es : List Ke} {P P' : Nat → Prop} (h : Pz w base yb s N a b T bv es P) (hP : ∀ i, P' i → P i) : Pz w base yb s N a b T bv es P' := by
  obtain ⟨L, h, hL⟩ := h
  exact ⟨L, h, fun i hi => hL i (hP i hi)⟩
theorem Pz.bs {w : World} {base yb : Nat} {s : Int} {N : Nat} {a b : Nat → Value} {T : Nat → Option PairT} {bv : Value} {es : List Ke} {P : Nat → Prop} (h : Pz w base yb s N a b T bv es P) : base ≤ w.heap.size := by
  obtain ⟨L, h, hL⟩ := h
  exact h.bs
theorem Pz.cells {w : World} {base yb : Nat} {s : Int} {N : Nat} {a b : Nat → Value} {T : Nat → Option PairT} {bv : Value} {es : List Ke} {P : Nat → Prop} (h : Pz w base yb s N a b T bv es P) :
    w.cell? ⟨yb, 0, none⟩ = some (a 0) ∧ w.cell? ⟨yb, 1, none⟩ = some (b 0) ∧ w.cell? ⟨yb, 2, none⟩ = some (a 1) ∧ w.cell? ⟨yb, 3, none⟩ = some (b 1) ∧ w.cell? ⟨yb, 4, none⟩ = some bv ∧ w.cell? ⟨yb, 5, none⟩ = some (.int .i64 s) ∧ ∀ j, w.frozen? ⟨yb, j, none⟩ = false := by
  obtain ⟨L, h, hL⟩ := h
  exact h.cells
theorem Pz.lt {w : World} {base yb : Nat} {s : Int} {N : Nat} {a b : Nat → Value} {T : Nat → Option PairT} {bv : Value} {es : List Ke} {P : Nat → Prop} (h : Pz w base yb s N a b T bv es P) : yb < w.heap.size ∧ base ≤ yb := by
  obtain ⟨L, h, hL⟩ := h
  exact ⟨heap_lt h.box, (h.lt yb (by have := h.own; omega)).1⟩
theorem Pz.two {w : World} {base yb : Nat} {s : Int} {N : Nat} {a b : Nat → Value} {T : Nat → Option PairT} {bv : Value} {es : List Ke} {P : Nat → Prop} (h : Pz w base yb s N a b T bv es P) {q : Nat} (hq : q ≤ 2) {t : PairT} (ht : T q = some t) :
    a q = .pointer (some ⟨t.db, 0, none⟩) ∧ b q = .pointer (some ⟨t.rb, 0, none⟩) ∧ Dev w t.db 0 t.S t.k N t.F ∧ RDev w t.rb t.U t.k t.R ∧ (∀ i, P i → ¬ t.F i ∧ ¬ t.R i) ∧ (∀ i, t.F i → base ≤ i) ∧ (∀ i, t.R i → base ≤ i) := by
  obtain ⟨L, h, hL⟩ := h
  have hp := h.pt q hq
  rw [ht] at hp
  have hp : Two w N (fun i => L i = 6 + q) (a q) (b q) t := hp
  refine ⟨hp.ea, hp.eb, hp.dev, hp.ref, fun i hi => ⟨fun r => ?_, fun r => ?_⟩, fun i r => ?_, fun i r => ?_⟩
  · have := (hL i hi).1; have := hp.fg i r; omega
  · have := (hL i hi).1; have := hp.rg i r; omega
  · exact (h.lt i (by have := hp.fg i r; omega)).1
  · exact (h.lt i (by have := hp.rg i r; omega)).1
theorem Pz.below {w w' : World} {base yb : Nat} {s : Int} {N : Nat} {a b : Nat → Value} {T : Nat → Option PairT} {bv : Value} {es : List Ke} {P : Nat → Prop} (h : Pz w base yb s N a b T bv es P) (hb : Below w.heap.size w w') : Pz w' base yb s N a b T bv es (fun i => P i ∨ (w.heap.size ≤ i ∧ i < w'.heap.size)) ∧ Fr P base w w' := by
  obtain ⟨L, h, hL⟩ := h
  refine ⟨⟨L, h.below hb, fun i hi => ?_⟩, hb.mono h.bs, fun i hi => hb.block i (hL i hi).2.2⟩
  rcases hi with hi | hi
  · exact ⟨(hL i hi).1, (hL i hi).2.1, Nat.lt_of_lt_of_le (hL i hi).2.2 hb.size⟩
  · exact ⟨h.zero hi.1, Nat.le_trans h.bs hi.1, hi.2⟩
theorem Pz.drewN {w : World} {base yb : Nat} {s : Int} {N : Nat} {a b : Nat → Value} {T : Nat → Option PairT} {bv : Value} {es : List Ke} {P : Nat → Prop} (h : Pz w base yb s N a b T bv es P) (m : Nat) : Pz (w.drewN m) base yb s N a b T bv es P :=
  (h.below (below_drewN (Below.refl _ w) m)).1.less (fun _ h => Or.inl h)
theorem Fr.drewN {P : Nat → Prop} {base : Nat} {w w' : World} (h : Fr P base w w') (m : Nat) : Fr P base w (w'.drewN m) := ⟨below_drewN h.blw m, h.free⟩
/-- Blocks that are free turn. -/
theorem Pz.free {w w' : World} {base yb : Nat} {s : Int} {N : Nat} {a b : Nat → Value} {T : Nat → Option PairT} {bv : Value} {es : List Ke} {P H : Nat → Prop} (h : Pz w base yb s N a b T bv es P) (t : Turns H w w') (hH : ∀ i, H i → P i) : Pz w' base yb s N a b T bv es (fun i => P i ∨ (w.heap.size ≤ i ∧ i < w'.heap.size)) ∧ Fr (fun i => P i ∧ ¬ H i) base w w' := by
  obtain ⟨L, h, hL⟩ := h
  refine ⟨⟨L, h.free t (fun i hi => (hL i (hH i hi)).1), fun i hi => ?_⟩, t.below (fun i hi => (hL i (hH i hi)).2.1) h.bs, fun i hi => t.block i (hL i hi.1).2.2 hi.2⟩
  rcases hi with hi | hi
  · exact ⟨(hL i hi).1, (hL i hi).2.1, Nat.lt_of_lt_of_le (hL i hi).2.2 t.size⟩
  · exact ⟨h.zero hi.1, Nat.le_trans h.bs hi.1, hi.2⟩
theorem Pz.dev {w w' : World} {base yb : Nat} {s : Int} {N N' : Nat} {a b : Nat → Value} {T : Nat → Option PairT} {bv : Value} {es : List Ke} {P : Nat → Prop} (h : Pz w base yb s N a b T bv es P) {q : Nat} (hq : q ≤ 2) {t : PairT} (ht : T q = some t) {S' : DevS} (hw : Went w w' t.db S' t.k N' t.F) (hN : N ≤ N') :
    Pz w' base yb s N' a b (upd T q (some { t with S := S', F := grow t.F w w' })) bv es P ∧ Fr P base w w' := by
  have hP := (h.two hq ht).2.2.2.2.1
  obtain ⟨L, h, hL⟩ := h
  obtain ⟨h1, h2⟩ := h.dev hq ht hw hN
  refine ⟨⟨_, h1, fun i hi => ⟨?_, (hL i hi).2.1, Nat.lt_of_lt_of_le (hL i hi).2.2 hw.2.size⟩⟩, h2, fun i hi => hw.2.block i (hL i hi).2.2 (hP i hi).1⟩
  rw [relab_out (fun r => by have := (hL i hi).2.2; omega)]
  exact (hL i hi).1
theorem Pz.ref {w w' : World} {base yb : Nat} {s : Int} {N : Nat} {a b : Nat → Value} {T : Nat → Option PairT} {bv : Value} {es : List Ke} {P : Nat → Prop} (h : Pz w base yb s N a b T bv es P) {q : Nat} (hq : q ≤ 2) {t : PairT} (ht : T q = some t) {U' : DevS} (hw : RWent w w' t.rb U' t.k t.R) :
    Pz w' base yb s N a b (upd T q (some { t with U := U', R := grow t.R w w' })) bv es P ∧ Fr P base w w' := by
  have hP := (h.two hq ht).2.2.2.2.1
  obtain ⟨L, h, hL⟩ := h
  obtain ⟨h1, h2⟩ := h.ref hq ht hw
  refine ⟨⟨_, h1, fun i hi => ⟨?_, (hL i hi).2.1, Nat.lt_of_lt_of_le (hL i hi).2.2 hw.2.size⟩⟩, h2, fun i hi => hw.2.block i (hL i hi).2.2 (hP i hi).2⟩
  rw [relab_out (fun r => by have := (hL i hi).2.2; omega)]
  exact (hL i hi).1
theorem Pz.same {w w' : World} {base yb : Nat} {s : Int} {N : Nat} {a b : Nat → Value} {T : Nat → Option PairT} {bv : Value} {es : List Ke} {P : Nat → Prop} (h : Pz w base yb s N a b T bv es P) {q : Nat} (hq : q ≤ 2) {t : PairT} (ht : T q = some t) {S' : DevS} (hw : Same0 w w' t.db S' t.k N t.F) :
    Pz w' base yb s N a b (upd T q (some { t with S := S' })) bv es (fun i => P i ∨ (w.heap.size ≤ i ∧ i < w'.heap.size)) ∧ Fr P base w w' := by
  have hP := (h.two hq ht).2.2.2.2.1
  obtain ⟨L, h, hL⟩ := h
  obtain ⟨h1, h2⟩ := h.same hq ht hw
  refine ⟨⟨_, h1, fun i hi => ?_⟩, h2, fun i hi => hw.2.block i (hL i hi).2.2 (hP i hi).1⟩
  rcases hi with hi | hi
  · exact ⟨(hL i hi).1, (hL i hi).2.1, Nat.lt_of_lt_of_le (hL i hi).2.2 hw.2.size⟩
  · exact ⟨h.zero hi.1, Nat.le_trans h.bs hi.1, hi.2⟩
/-- keep at the play's own book. -/
theorem keep_py {w : World} {base yb : Nat} {s : Int} {N : Nat} {a b : Nat → Value} {T : Nat → Option PairT} {bv : Value} {es : List Ke} {P : Nat → Prop} (h : Pz w base yb s N a b T bv es P) (l : Value) (n : Nat) (xs : List Value) (hl : w.ownsRow 0 5 1 l n xs) (hP : ∀ i, l.ownBlock = some i → P i) (hn : n ≤ 3000000) (hes : es.length ≤ 1000000000000) (m : Int) :
    Calls Try.prog 24 #[bv, l, .int .u8 m] w fun e w' => ∃ va vn vc, e = .returned (.slice va vn vc) ∧ w'.cell? ⟨yb, 4, none⟩ = some bv ∧ w'.frozen? ⟨yb, 4, none⟩ = false ∧ (∃ fs : List Ke, fs.length = 3 ∧ Pz (w'.setCell ⟨yb, 4, none⟩ (.slice va vn vc)) base yb s N a b T (.slice va vn vc) (es ++ fs) (fun i => P i ∧ l.ownBlock ≠ some i)) ∧ Fr (fun i => P i ∧ l.ownBlock ≠ some i) base w (w'.setCell ⟨yb, 4, none⟩ (.slice va vn vc)) := by
  obtain ⟨L, h', hL⟩ := h
  refine (keep_any h'.bk l n xs hl (fun i hi r => by have := (hL i (hP i hi)).1; omega) hn hes m).mono ?_
  rintro e w' ⟨bv', rfl, hk⟩
  obtain ⟨va, vc, rfl⟩ : ∃ va vc, bv' = .slice va (es.length + 3) vc := by
    obtain ⟨fs, hfs, hB, _⟩ := hk
    obtain ⟨va, vc, q⟩ := row_slice hB.row
    exact ⟨va, vc, by rw [q, List.length_append, hfs]⟩
  have hl' : ∀ i, l.ownBlock = some i → L i = 0 ∧ base ≤ i ∧ i < w.heap.size := fun i hi => hL i (hP i hi)
  obtain ⟨⟨fs, hfs, h1⟩, h2⟩ := h'.keep hl' hk
  have hs : w.heap.size ≤ (w'.setCell ⟨yb, 4, none⟩ (.slice va (es.length + 3) vc)).heap.size := h2.size
  have hbox : w'.heap[yb]? = some (.cells #[a 0, b 0, a 1, b 1, bv, .int .i64 s] 32 (0, 0)) := by
    obtain ⟨_, _, _, hT⟩ := hk
    exact (hT.block yb (heap_lt h'.box) (fun r => by
      have := h'.own
      rcases r with r | r
      · have := h'.bk.kb yb r; omega
      · have := (hl' yb r).1; omega)).trans h'.box
  refine ⟨va, _, vc, rfl, by simp [World.cell?, hbox], by simp [World.frozen?, hbox], ⟨fs, hfs, _, h1, fun i hi => ⟨?_, (hL i hi.1).2.1, Nat.lt_of_lt_of_le (hL i hi.1).2.2 hs⟩⟩, h'.keep_below hl' h2, fun i hi => h2.block i (hL i hi.1).2.2 (fun r => ?_)⟩
  · rw [relab_out (fun r => r.elim hi.2 (fun r => by have := (hL i hi.1).2.2; omega))]
    exact (hL i hi.1).1
  · have := (hL i hi.1).1
    rcases r with r | r | r
    · omega
    · omega
    · exact hi.2 r

theorem mark_any {w : World} {base yb : Nat} {s : Int} {N : Nat} {a b : Nat → Value} {T : Nat → Option PairT} {bv : Value} {es : List Ke} {P : Nat → Prop} (h : Pz w base yb s N a b T bv es P) :
    Calls Try.prog 25 #[.pointer (some ⟨yb, 0, none⟩)] w fun e w' => ∃ m, e = .returned (.int .u8 m) ∧ w' = w := by
  have c5 := h.cells.2.2.2.2.2.1
  clear h
  go_enter Try.func25, Try.ntmps25
  go_wp2
  go_ret
  exact ⟨_, rfl, rfl⟩

/-- A step's lists. -/
structure OpOk (w : World) (base : Nat) (da : Option Addr) (dn dc : Nat) (bs : List Int) (ka : Option Addr) (kn kc : Nat) (ks : List Bool) : Prop where
  d : Lies w da dn dc bs
  dy : ∀ x ∈ bs, 0 ≤ x ∧ x ≤ 255
  dl : ∀ ad, da = some ad → 0 < dn → ad.block < base
  k : KLies w ka kn kc ks
  kl : ∀ ad, ka = some ad → 0 < kn → ad.block < base
  kz : ka = none → kn = 0 ∧ kc = 0
  dm : dn ≤ 1000000
  km : kn ≤ 2000000
theorem OpOk.below {w w' : World} {base : Nat} {da : Option Addr} {dn dc : Nat} {bs : List Int} {ka : Option Addr} {kn kc : Nat} {ks : List Bool} (h : OpOk w base da dn dc bs ka kn kc ks) (hb : Below base w w') : OpOk w' base da dn dc bs ka kn kc ks := by
  have t : Turns (fun i => base ≤ i) w w' := ⟨hb.os, hb.tape, hb.output, hb.size, fun i _ hi => hb.block i (by omega)⟩
  exact { h with d := h.d.turns0 t (fun ad had h0 r => by have := h.dl ad had h0; omega), k := h.k.turns0 t (fun ad had h0 r => by have := h.kl ad had h0; omega) }
/-- Both devices of every pair hold the same. -/
def Bal (T : Nat → Option PairT) : Prop := ∀ q t, T q = some t → t.S = t.U
theorem Bal.upd {T : Nat → Option PairT} (h : Bal T) {q : Nat} {t : PairT} (ht : t.S = t.U) : Bal (upd T q (some t)) := fun r u hu => by
  by_cases e : r = q
  · subst e; rw [upd_same] at hu; cases hu; exact ht
  · rw [upd_other _ _ e] at hu; exact h r u hu
/-- What a step leaves. -/
def Aft (w w' : World) (base yb : Nat) (s : Int) (N : Nat) (a b : Nat → Value) (M : Nat) : Prop := (∃ T bv es, Pz w' base yb s N a b T bv es (fun _ => False) ∧ Bal T ∧ T 2 = none ∧ es.length ≤ M) ∧ Below base w w'
end Go.Proofs.Ytejfbjjhnhlagaa
