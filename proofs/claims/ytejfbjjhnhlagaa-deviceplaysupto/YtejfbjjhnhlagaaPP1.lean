/- The play: two pairs of devices and a pair in the making, the book, all apart. -/
import Derived.Test.YtejfbjjhnhlagaaPK2
import Derived.Test.YtejfbjjhnhlagaaPR5
import Derived.Test.YtejfbjjhnhlagaaPR7
namespace Go.Proofs.Ytejfbjjhnhlagaa
open Go.RowKit Go.Maps
set_option maxRecDepth 100000

theorem Dev.up {F : Nat → Prop} {w : World} {db : Nat} {st : Int} {S : DevS} {k N N' : Nat} (h : Dev w db st S k N F) (hN : N ≤ N') : Dev w db st S k N' F := by
  obtain ⟨gl, bm, q, pv, gs, Dm, h, f, hl⟩ := h
  exact ⟨gl, bm, q, pv, gs, Dm, { h with pn := Nat.le_trans h.pn hN, map := h.map.mono hN }, f, hl⟩
theorem Dev.pn {F : Nat → Prop} {w : World} {db : Nat} {st : Int} {S : DevS} {k N : Nat} (h : Dev w db st S k N F) : S.pend.length ≤ N := by
  obtain ⟨gl, bm, q, pv, gs, Dm, h, f, hl⟩ := h
  exact h.pn
/-- A pair: its two devices, what each holds, their blocks. -/
structure PairT where
  db : Nat
  rb : Nat
  S : DevS
  U : DevS
  k : Nat
  F : Nat → Prop
  R : Nat → Prop
structure Two (w : World) (N : Nat) (G : Nat → Prop) (a b : Value) (t : PairT) : Prop where
  ea : a = .pointer (some ⟨t.db, 0, none⟩)
  eb : b = .pointer (some ⟨t.rb, 0, none⟩)
  dev : Dev w t.db 0 t.S t.k N t.F
  ref : RDev w t.rb t.U t.k t.R
  fg : ∀ i, t.F i → G i
  rg : ∀ i, t.R i → G i
  ap : ∀ i, t.F i → ¬ t.R i
def PT (w : World) (N : Nat) (G : Nat → Prop) (a b : Value) : Option PairT → Prop
  | none => a = .pointer none ∧ b = .pointer none
  | some t => Two w N G a b t
theorem Two.turns {H : Nat → Prop} {w w' : World} {N N' : Nat} {G G' : Nat → Prop} {a b : Value} {t : PairT} (h : Two w N G a b t) (ht : Turns H w w') (hH : ∀ i, G i → ¬ H i) (hN : N ≤ N') (hG : ∀ i, G i → G' i) : Two w' N' G' a b t :=
  { h with
    dev := (h.dev.turns ht (fun i hi => hH i (h.fg i hi))).up hN
    ref := h.ref.turns ht (fun i hi => hH i (h.rg i hi))
    fg := fun i hi => hG i (h.fg i hi)
    rg := fun i hi => hG i (h.rg i hi) }
theorem PT.turns {H : Nat → Prop} {w w' : World} {N N' : Nat} {G G' : Nat → Prop} {a b : Value} {o : Option PairT} (h : PT w N G a b o) (ht : Turns H w w') (hH : ∀ i, G i → ¬ H i) (hN : N ≤ N') (hG : ∀ i, G i → G' i) : PT w' N' G' a b o := by
  cases o with
  | none => exact h
  | some t => exact Two.turns h ht hH hN hG
/-- The play in memory. L: whose each block is: 0 nobody's, 3 the book's, 5 the play's own, 6 to 8 the pairs', 9 lent (what it holds stands in a and b, from 3 on). -/
structure Py (w : World) (base : Nat) (L : Nat → Nat) (yb : Nat) (s : Int) (N : Nat) (a b : Nat → Value) (T : Nat → Option PairT) (bv : Value) (es : List Ke) : Prop where
  box : w.heap[yb]? = some (.cells #[a 0, b 0, a 1, b 1, bv, .int .i64 s] 32 (0, 0))
  own : L yb = 5
  one : ∀ i, L i = 5 → i = yb
  bk : Bk w (fun i => L i = 3) bv es
  pt : ∀ q, q ≤ 2 → PT w N (fun i => L i = 6 + q) (a q) (b q) (T q)
  lt : ∀ i, L i ≠ 0 → base ≤ i ∧ i < w.heap.size
  bs : base ≤ w.heap.size
  fr : ∀ (i : Nat) cs (ty : Nat), a (3 + i) = .agg cs → b (3 + i) = .int .i64 ty → w.heap[i]? = some (.cells cs ty (0, 0)) ∧ L i = 9
/-- New blocks, and those of X, get a label. -/
noncomputable def relab (L : Nat → Nat) (X : Nat → Prop) (c : Nat) : Nat → Nat := fun i => by
  classical exact if X i then c else L i
theorem relab_in {L : Nat → Nat} {X : Nat → Prop} {c i : Nat} (h : X i) : relab L X c i = c := by unfold relab; rw [if_pos h]
theorem relab_out {L : Nat → Nat} {X : Nat → Prop} {c i : Nat} (h : ¬ X i) : relab L X c i = L i := by unfold relab; rw [if_neg h]
theorem relab_eq {L : Nat → Nat} {X : Nat → Prop} {c d i : Nat} (hX : ∀ i, X i → L i = 0) (hd : d ≠ 0) (h : L i = d) : relab L X c i = d := by
  rw [relab_out (fun q => by have := hX i q; omega)]; exact h
theorem relab_ne {L : Nat → Nat} {X : Nat → Prop} {c i : Nat} (hc : c ≠ 5) (h : relab L X c i = 5) : L i = 5 := by
  by_cases q : X i
  · rw [relab_in q] at h; omega
  · rw [relab_out q] at h; exact h
/-- Blocks that are nobody's turn, and new ones come. -/
theorem Py.free {H : Nat → Prop} {w w' : World} {base : Nat} {L : Nat → Nat} {yb : Nat} {s : Int} {N : Nat} {a b : Nat → Value} {T : Nat → Option PairT} {bv : Value} {es : List Ke} (h : Py w base L yb s N a b T bv es) (t : Turns H w w') (hH : ∀ i, H i → L i = 0) : Py w' base L yb s N a b T bv es :=
  { h with
    box := (t.block yb (heap_lt h.box) (fun q => by have := hH yb q; have := h.own; omega)).trans h.box
    bk := h.bk.turns t (fun i hi q => by have := hH i q; omega)
    pt := fun q hq => (h.pt q hq).turns t (fun i hi r => by have := hH i r; omega) (Nat.le_refl _) (fun i hi => hi)
    lt := fun i hi => ⟨(h.lt i hi).1, Nat.lt_of_lt_of_le (h.lt i hi).2 t.size⟩
    bs := Nat.le_trans h.bs t.size
    fr := fun i cs ty h1 h2 => ⟨(t.block i (heap_lt (h.fr i cs ty h1 h2).1) (fun q => by have := hH i q; have := (h.fr i cs ty h1 h2).2; omega)).trans (h.fr i cs ty h1 h2).1, (h.fr i cs ty h1 h2).2⟩ }
theorem Py.below {w w' : World} {base : Nat} {L : Nat → Nat} {yb : Nat} {s : Int} {N : Nat} {a b : Nat → Value} {T : Nat → Option PairT} {bv : Value} {es : List Ke} (h : Py w base L yb s N a b T bv es) (hb : Below w.heap.size w w') : Py w' base L yb s N a b T bv es :=
  h.free (Below.turns hb (fun _ => False)) (fun _ h => h.elim)
theorem Py.zero {w : World} {base : Nat} {L : Nat → Nat} {yb : Nat} {s : Int} {N : Nat} {a b : Nat → Value} {T : Nat → Option PairT} {bv : Value} {es : List Ke} (h : Py w base L yb s N a b T bv es) {i : Nat} (hi : w.heap.size ≤ i) : L i = 0 := by
  by_cases q : L i = 0
  · exact q
  · have := (h.lt i q).2; omega
theorem Py.cells {w : World} {base : Nat} {L : Nat → Nat} {yb : Nat} {s : Int} {N : Nat} {a b : Nat → Value} {T : Nat → Option PairT} {bv : Value} {es : List Ke} (h : Py w base L yb s N a b T bv es) :
    w.cell? ⟨yb, 0, none⟩ = some (a 0) ∧ w.cell? ⟨yb, 1, none⟩ = some (b 0) ∧ w.cell? ⟨yb, 2, none⟩ = some (a 1) ∧ w.cell? ⟨yb, 3, none⟩ = some (b 1) ∧ w.cell? ⟨yb, 4, none⟩ = some bv ∧ w.cell? ⟨yb, 5, none⟩ = some (.int .i64 s) ∧ ∀ j, w.frozen? ⟨yb, j, none⟩ = false := by
  refine ⟨?_, ?_, ?_, ?_, ?_, ?_, fun j => ?_⟩ <;> simp [World.cell?, World.frozen?, h.box]
/-- A pair's entry is set. -/
def upd {α : Type} (f : Nat → α) (q : Nat) (x : α) : Nat → α := fun i => if i = q then x else f i
theorem upd_same {α : Type} (f : Nat → α) (q : Nat) (x : α) : upd f q x q = x := by simp [upd]
theorem upd_other {α : Type} (f : Nat → α) {q r : Nat} (x : α) (h : r ≠ q) : upd f q x r = f r := by simp [upd, h]
/-- The program's device of a pair has gone on. -/
theorem Py.dev {w w' : World} {base : Nat} {L : Nat → Nat} {yb : Nat} {s : Int} {N N' : Nat} {a b : Nat → Value} {T : Nat → Option PairT} {bv : Value} {es : List Ke} (h : Py w base L yb s N a b T bv es) {q : Nat} (hq : q ≤ 2) {t : PairT} (ht : T q = some t) {S' : DevS} (hw : Went w w' t.db S' t.k N' t.F) (hN : N ≤ N') :
    Py w' base (relab L (fun i => w.heap.size ≤ i ∧ i < w'.heap.size) (6 + q)) yb s N' a b (upd T q (some { t with S := S', F := grow t.F w w' })) bv es ∧ Below base w w' := by
  obtain ⟨hD, hT⟩ := hw
  have hp := h.pt q hq
  rw [ht] at hp
  have hp : Two w N (fun i => L i = 6 + q) (a q) (b q) t := hp
  have h0 : ∀ i, (w.heap.size ≤ i ∧ i < w'.heap.size) → L i = 0 := fun i hi => h.zero hi.1
  have hF : ∀ i, t.F i → L i = 6 + q := hp.fg
  have e1 : ∀ {d i : Nat}, d ≠ 0 → L i = d → relab L (fun i => w.heap.size ≤ i ∧ i < w'.heap.size) (6 + q) i = d := fun hd hi => relab_eq h0 hd hi
  refine ⟨⟨?_, ?_, ?_, ?_, ?_, ?_, Nat.le_trans h.bs hT.size, fun i cs ty h1 h2 => ⟨(hT.block i (heap_lt (h.fr i cs ty h1 h2).1) (fun r => by have := hF i r; have := (h.fr i cs ty h1 h2).2; omega)).trans (h.fr i cs ty h1 h2).1, e1 (by omega) (h.fr i cs ty h1 h2).2⟩⟩, hT.below (fun i hi => (h.lt i (by have := hF i hi; omega)).1) h.bs⟩
  · exact (hT.block yb (heap_lt h.box) (fun r => by have := hF yb r; have := h.own; omega)).trans h.box
  · exact e1 (by omega) h.own
  · exact fun i hi => h.one i (relab_ne (by omega) hi)
  · exact (h.bk.turns hT (fun i hi r => by have := hF i r; omega)).mono (fun i hi => e1 (by omega) hi)
  · intro r hr
    by_cases e : r = q
    · subst e
      rw [upd_same]
      have hR := hp.ref.turns hT (fun i hi r => hp.ap i r hi)
      refine ⟨hp.ea, hp.eb, hD, hR, fun i hi => ?_, fun i hi => e1 (by omega) (hp.rg i hi), fun i hi hr' => ?_⟩
      · rcases hi with hi | hi
        · exact e1 (by omega) (hp.fg i hi)
        · exact relab_in hi
      · rcases hi with hi | hi
        · exact hp.ap i hi hr'
        · have := hp.ref.lt i hr'; omega
    · rw [upd_other _ _ e]
      exact (h.pt r hr).turns hT (fun i hi u => by have := hF i u; omega) hN (fun i hi => e1 (by omega) hi)
  · intro i hi
    by_cases u : w.heap.size ≤ i ∧ i < w'.heap.size
    · exact ⟨Nat.le_trans h.bs u.1, u.2⟩
    · rw [relab_out u] at hi
      exact ⟨(h.lt i hi).1, Nat.lt_of_lt_of_le (h.lt i hi).2 hT.size⟩
/-- The program's device of a pair was looked at, or armed. -/
theorem Py.same {w w' : World} {base : Nat} {L : Nat → Nat} {yb : Nat} {s : Int} {N : Nat} {a b : Nat → Value} {T : Nat → Option PairT} {bv : Value} {es : List Ke} (h : Py w base L yb s N a b T bv es) {q : Nat} (hq : q ≤ 2) {t : PairT} (ht : T q = some t) {S' : DevS} (hw : Same0 w w' t.db S' t.k N t.F) :
    Py w' base L yb s N a b (upd T q (some { t with S := S' })) bv es ∧ Below base w w' := by
  obtain ⟨hD, hT⟩ := hw
  have hp := h.pt q hq
  rw [ht] at hp
  have hp : Two w N (fun i => L i = 6 + q) (a q) (b q) t := hp
  have hF : ∀ i, t.F i → L i = 6 + q := hp.fg
  refine ⟨⟨?_, h.own, h.one, h.bk.turns hT (fun i hi r => by have := hF i r; omega), ?_, fun i hi => ⟨(h.lt i hi).1, Nat.lt_of_lt_of_le (h.lt i hi).2 hT.size⟩, Nat.le_trans h.bs hT.size, fun i cs ty h1 h2 => ⟨(hT.block i (heap_lt (h.fr i cs ty h1 h2).1) (fun r => by have := hF i r; have := (h.fr i cs ty h1 h2).2; omega)).trans (h.fr i cs ty h1 h2).1, (h.fr i cs ty h1 h2).2⟩⟩, hT.below (fun i hi => (h.lt i (by have := hF i hi; omega)).1) h.bs⟩
  · exact (hT.block yb (heap_lt h.box) (fun r => by have := hF yb r; have := h.own; omega)).trans h.box
  · intro r hr
    by_cases e : r = q
    · subst e
      rw [upd_same]
      exact ⟨hp.ea, hp.eb, hD, hp.ref.turns hT (fun i hi r => hp.ap i r hi), hp.fg, hp.rg, hp.ap⟩
    · rw [upd_other _ _ e]
      exact (h.pt r hr).turns hT (fun i hi u => by have := hF i u; omega) (Nat.le_refl _) (fun i hi => hi)
/-- The document's device of a pair has gone on. -/
theorem Py.ref {w w' : World} {base : Nat} {L : Nat → Nat} {yb : Nat} {s : Int} {N : Nat} {a b : Nat → Value} {T : Nat → Option PairT} {bv : Value} {es : List Ke} (h : Py w base L yb s N a b T bv es) {q : Nat} (hq : q ≤ 2) {t : PairT} (ht : T q = some t) {U' : DevS} (hw : RWent w w' t.rb U' t.k t.R) :
    Py w' base (relab L (fun i => w.heap.size ≤ i ∧ i < w'.heap.size) (6 + q)) yb s N a b (upd T q (some { t with U := U', R := grow t.R w w' })) bv es ∧ Below base w w' := by
  obtain ⟨hD, hT⟩ := hw
  have hp := h.pt q hq
  rw [ht] at hp
  have hp : Two w N (fun i => L i = 6 + q) (a q) (b q) t := hp
  have h0 : ∀ i, (w.heap.size ≤ i ∧ i < w'.heap.size) → L i = 0 := fun i hi => h.zero hi.1
  have hF : ∀ i, t.R i → L i = 6 + q := hp.rg
  have e1 : ∀ {d i : Nat}, d ≠ 0 → L i = d → relab L (fun i => w.heap.size ≤ i ∧ i < w'.heap.size) (6 + q) i = d := fun hd hi => relab_eq h0 hd hi
  refine ⟨⟨?_, ?_, ?_, ?_, ?_, ?_, Nat.le_trans h.bs hT.size, fun i cs ty h1 h2 => ⟨(hT.block i (heap_lt (h.fr i cs ty h1 h2).1) (fun r => by have := hF i r; have := (h.fr i cs ty h1 h2).2; omega)).trans (h.fr i cs ty h1 h2).1, e1 (by omega) (h.fr i cs ty h1 h2).2⟩⟩, hT.below (fun i hi => (h.lt i (by have := hF i hi; omega)).1) h.bs⟩
  · exact (hT.block yb (heap_lt h.box) (fun r => by have := hF yb r; have := h.own; omega)).trans h.box
  · exact e1 (by omega) h.own
  · exact fun i hi => h.one i (relab_ne (by omega) hi)
  · exact (h.bk.turns hT (fun i hi r => by have := hF i r; omega)).mono (fun i hi => e1 (by omega) hi)
  · intro r hr
    by_cases e : r = q
    · subst e
      rw [upd_same]
      have hR := hp.dev.turns hT (fun i hi r => hp.ap i hi r)
      refine ⟨hp.ea, hp.eb, hR, hD, fun i hi => e1 (by omega) (hp.fg i hi), fun i hi => ?_, fun i hi hr' => ?_⟩
      · rcases hi with hi | hi
        · exact e1 (by omega) (hp.rg i hi)
        · exact relab_in hi
      · rcases hr' with hr' | hr'
        · exact hp.ap i hi hr'
        · have := hp.dev.lt i hi; omega
    · rw [upd_other _ _ e]
      exact (h.pt r hr).turns hT (fun i hi u => by have := hF i u; omega) (Nat.le_refl _) (fun i hi => e1 (by omega) hi)
  · intro i hi
    by_cases u : w.heap.size ≤ i ∧ i < w'.heap.size
    · exact ⟨Nat.le_trans h.bs u.1, u.2⟩
    · rw [relab_out u] at hi
      exact ⟨(h.lt i hi).1, Nat.lt_of_lt_of_le (h.lt i hi).2 hT.size⟩
/-- A list has been kept. -/
theorem Py.keep {w w' : World} {base : Nat} {L : Nat → Nat} {yb : Nat} {s : Int} {N : Nat} {a b : Nat → Value} {T : Nat → Option PairT} {bv bv' l : Value} {es : List Ke} (h : Py w base L yb s N a b T bv es) (hl : ∀ i, l.ownBlock = some i → L i = 0 ∧ base ≤ i ∧ i < w.heap.size) (hk : Kept3 w w' (fun i => L i = 3) bv l bv' es) :
    (∃ fs : List Ke, fs.length = 3 ∧ Py (w'.setCell ⟨yb, 4, none⟩ bv') base (relab L (fun i => l.ownBlock = some i ∨ (w.heap.size ≤ i ∧ i < w'.heap.size)) 3) yb s N a b T bv' (es ++ fs)) ∧ Turns (fun i => L i = 3 ∨ L i = 5 ∨ l.ownBlock = some i) w (w'.setCell ⟨yb, 4, none⟩ bv') := by
  obtain ⟨fs, hfs, hB, hT⟩ := hk
  have h0 : ∀ i, (l.ownBlock = some i ∨ (w.heap.size ≤ i ∧ i < w'.heap.size)) → L i = 0 := fun i hi => hi.elim (fun r => (hl i r).1) (fun r => h.zero r.1)
  have e1 : ∀ {d i : Nat}, d ≠ 0 → L i = d → relab L (fun i => l.ownBlock = some i ∨ (w.heap.size ≤ i ∧ i < w'.heap.size)) 3 i = d := fun hd hi => relab_eq h0 hd hi
  have hK : ∀ i, (bv.ownBlock = some i ∨ l.ownBlock = some i) → L i = 3 ∨ L i = 0 := fun i hi => hi.elim (fun r => Or.inl (h.bk.kb i r)) (fun r => Or.inr (hl i r).1)
  have hbox : w'.heap[yb]? = _ := (hT.block yb (heap_lt h.box) (fun r => by have := hK yb r; have := h.own; omega)).trans h.box
  have t2 : Turns (fun i => i = yb) w' (w'.setCell ⟨yb, 4, none⟩ bv') := Turns.cell w' yb 4 bv'
  have hs2 : (w'.setCell ⟨yb, 4, none⟩ bv').heap.size = w'.heap.size := by simp [World.setCell]
  have tt : Turns (fun i => L i = 3 ∨ L i = 5 ∨ l.ownBlock = some i) w (w'.setCell ⟨yb, 4, none⟩ bv') := (hT.mono (fun i _ r => r.elim (fun r => Or.inl (h.bk.kb i r)) (fun r => Or.inr (Or.inr r)))).trans t2 (fun i _ e => by subst e; exact Or.inr (Or.inl h.own))
  refine ⟨⟨fs, hfs, ⟨?_, ?_, ?_, ?_, ?_, ?_, ?_, fun i cs ty h1 h2 => ⟨(tt.block i (heap_lt (h.fr i cs ty h1 h2).1) (fun u => by
    have := (h.fr i cs ty h1 h2).2
    rcases u with u | u | u
    · omega
    · omega
    · have := (hl i u).1; omega)).trans (h.fr i cs ty h1 h2).1, e1 (by omega) (h.fr i cs ty h1 h2).2⟩⟩⟩, tt⟩
  · rw [heap_setCell_same _ _ _ _ _ _ hbox]; rfl
  · exact e1 (by omega) h.own
  · exact fun i hi => h.one i (relab_ne (by omega) hi)
  · have hB2 := hB.turns t2 (fun i hi e => by
      subst e
      rcases hi with r | r | r
      · have := h.own; omega
      · have := (hl i r).1; have := h.own; omega
      · have := heap_lt h.box; omega)
    refine hB2.mono (fun i hi => ?_)
    rcases hi with r | r | r
    · exact e1 (by omega) r
    · exact relab_in (Or.inl r)
    · exact relab_in (Or.inr r)
  · intro r hr
    exact (h.pt r hr).turns tt (fun i hi u => by
      rcases u with u | u | u
      · omega
      · omega
      · have := (hl i u).1; omega) (Nat.le_refl _) (fun i hi => e1 (by omega) hi)
  · intro i hi
    rw [hs2]
    by_cases u : l.ownBlock = some i ∨ (w.heap.size ≤ i ∧ i < w'.heap.size)
    · rcases u with u | u
      · exact ⟨(hl i u).2.1, Nat.lt_of_lt_of_le (hl i u).2.2 hT.size⟩
      · exact ⟨Nat.le_trans h.bs u.1, u.2⟩
    · rw [relab_out u] at hi
      exact ⟨(h.lt i hi).1, Nat.lt_of_lt_of_le (h.lt i hi).2 hT.size⟩
  · rw [hs2]; exact Nat.le_trans h.bs hT.size
theorem Py.keep_below {w w' : World} {base : Nat} {L : Nat → Nat} {yb : Nat} {s : Int} {N : Nat} {a b : Nat → Value} {T : Nat → Option PairT} {bv l : Value} {es : List Ke} (h : Py w base L yb s N a b T bv es) (hl : ∀ i, l.ownBlock = some i → L i = 0 ∧ base ≤ i ∧ i < w.heap.size) (t : Turns (fun i => L i = 3 ∨ L i = 5 ∨ l.ownBlock = some i) w w') : Below base w w' :=
  t.below (fun i hi => by
    rcases hi with r | r | r
    · exact (h.lt i (by omega)).1
    · exact (h.lt i (by omega)).1
    · exact (hl i r).2.1) h.bs
/-- A block of a call's is lent: it stays as it is. -/
theorem Py.lend {w : World} {base : Nat} {L : Nat → Nat} {yb : Nat} {s : Int} {N : Nat} {a b : Nat → Value} {T : Nat → Option PairT} {bv : Value} {es : List Ke} (h : Py w base L yb s N a b T bv es) {i : Nat} (hi : L i = 0) (hb : base ≤ i) {cs : Array Value} {ty : Nat} (hc : w.heap[i]? = some (.cells cs ty (0, 0))) :
    Py w base (relab L (fun x => x = i) 9) yb s N (upd a (3 + i) (.agg cs)) (upd b (3 + i) (.int .i64 ty)) T bv es := by
  have h0 : ∀ x, x = i → L x = 0 := fun x e => by subst e; exact hi
  have e1 : ∀ {d x : Nat}, d ≠ 0 → L x = d → relab L (fun x => x = i) 9 x = d := fun hd hx => relab_eq h0 hd hx
  refine ⟨?_, e1 (by omega) h.own, fun x hx => h.one x (relab_ne (by omega) hx), h.bk.mono (fun x hx => e1 (by omega) hx), fun q hq => ?_, fun x hx => ?_, h.bs, fun x ds u h1 h2 => ?_⟩
  · rw [upd_other _ _ (by omega), upd_other _ _ (by omega), upd_other _ _ (by omega), upd_other _ _ (by omega)]
    exact h.box
  · rw [upd_other _ _ (by omega), upd_other _ _ (by omega)]
    exact (h.pt q hq).turns (Turns.refl (fun _ => False) w) (fun _ _ => id) (Nat.le_refl _) (fun x hx => e1 (by omega) hx)
  · by_cases e : x = i
    · subst e; exact ⟨hb, heap_lt hc⟩
    · rw [relab_out (X := fun x => x = i) e] at hx; exact h.lt x hx
  · by_cases e : x = i
    · subst e
      rw [upd_same] at h1 h2
      cases h1
      have e2 : ty = u := by
        have := (Value.int.inj h2).2
        omega
      subst e2
      exact ⟨hc, relab_in rfl⟩
    · rw [upd_other _ _ (by omega)] at h1 h2
      exact ⟨(h.fr x ds u h1 h2).1, e1 (by omega) (h.fr x ds u h1 h2).2⟩
end Go.Proofs.Ytejfbjjhnhlagaa
