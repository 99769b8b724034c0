/- A play in memory: two nets of the program's, two of the document's, the book; mark. -/
import Derived.Test.YtpbanjgjljdepaaKB2
import Derived.Test.YtpbanjgjljdepaaNW
namespace Go.Proofs.Ytpbanjgjljdepaa
open Go.RowKit Go.Maps
set_option maxRecDepth 100000
variable {w w' w0 : World} {lab lab' : Nat → Nat} {k j pb : Nat} {a b : Nat → Nat} {v bv : Value} {st : Int} {lg : Bool} {F : Nat → Prop} {S R : Nat → St} {es : List Ke}

theorem Bk.relab {m : Nat} (h : Bk w (fun i => lab i = m) bv es) (t : Turns F w w') (hF : ∀ i, i < w.heap.size → lab i = m → ¬ F i) (hl : ∀ i, i < w.heap.size → lab i = m → lab' i = m) : Bk w' (fun i => lab' i = m) bv es :=
  ⟨tl_turns h.row t (fun b e => hF b (tl_lt h.row e) (h.kb b e)), fun b e => hl b (tl_lt h.row e) (h.kb b e), fun e he => own_turns (h.ml e he) t (fun b q => hF b (own_lt (h.ml e he) q) (h.km e he b q)), fun e he b q => hl b (own_lt (h.ml e he) q) (h.km e he b q), h.le⟩
abbrev plC (a b : Nat → Nat) (bv : Value) (st : Int) (lg : Bool) : Array Value := #[.pointer (some ⟨a 0, 0, none⟩), .pointer (some ⟨a 1, 0, none⟩), .pointer (some ⟨b 0, 0, none⟩), .pointer (some ⟨b 1, 0, none⟩), bv, .int .i64 st, .bool lg]
/-- A play: its nets are labelled k, k + 1, k + 2, k + 3, its book k + 4, its box k + 5. -/
structure Pl (w : World) (lab : Nat → Nat) (k pb : Nat) (a b : Nat → Nat) (bv : Value) (st : Int) (lg : Bool) (S R : Nat → St) (es : List Ke) : Prop where
  box : w.heap[pb]? = some (.cells (plC a b bv st lg) 71 (0, 0))
  n : ∀ c, c < 2 → Nt w lab (k + c) (a c) (S c)
  d : ∀ c, c < 2 → Dn w lab (k + 2 + c) (b c) (R c)
  bk : Bk w (fun i => lab i = k + 4) bv es
  lb : lab pb = k + 5
  few : es.length ≤ 1300
  short : lg = false → ∀ c, c < 2 → ∀ f ∈ (S c).l, f.d.length ≤ 4096
/-- The labels of a play. -/
def Mine (k m : Nat) : Prop := k ≤ m ∧ m < k + 6
theorem Pl.turns (h : Pl w lab k pb a b bv st lg S R es) (t : Turns F w w') (hF : ∀ i, i < w.heap.size → Mine k (lab i) → ¬ F i) (hl : ∀ i, i < w.heap.size → Mine k (lab i) → lab' i = lab i) : Pl w' lab' k pb a b bv st lg S R es := by
  have hm : ∀ m, k ≤ m → m < k + 6 → ∀ i, i < w.heap.size → lab i = m → Mine k (lab i) := fun m h1 h2 i _ q => ⟨by omega, by omega⟩
  refine ⟨(t.block pb (heap_lt h.box) (hF _ (heap_lt h.box) (hm _ (by omega) (by omega) _ (heap_lt h.box) h.lb))).trans h.box, fun c hc => (h.n c hc).turns t (fun i hi q => hF i hi (hm _ (by omega) (by omega) i hi q)) (fun i hi q => (hl i hi (hm _ (by omega) (by omega) i hi q)).trans q), fun c hc => (h.d c hc).turns t (fun i hi q => hF i hi (hm _ (by omega) (by omega) i hi q)) (fun i hi q => (hl i hi (hm _ (by omega) (by omega) i hi q)).trans q), h.bk.relab t (fun i hi q => hF i hi (hm _ (by omega) (by omega) i hi q)) (fun i hi q => (hl i hi (hm _ (by omega) (by omega) i hi q)).trans q), (hl _ (heap_lt h.box) (hm _ (by omega) (by omega) _ (heap_lt h.box) h.lb)).trans h.lb, h.few, h.short⟩
theorem Pl.below (h : Pl w lab k pb a b bv st lg S R es) (u : Below w.heap.size w w') (m : Nat) : Pl w' (rl lab w m) k pb a b bv st lg S R es :=
  h.turns (Below.turns u (fun _ => False)) (fun _ _ _ q => q) (fun _ hi _ => rl_old hi)
theorem Pl.cell (h : Pl w lab k pb a b bv st lg S R es) (i : Nat) (u : Value) (hu : (plC a b bv st lg)[i]? = some u) : w.cell? ⟨pb, i, none⟩ = some u := by
  simp only [World.cell?]; rw [h.box]; simpa using hu
theorem Pl.fz (h : Pl w lab k pb a b bv st lg S R es) (i : Nat) : w.frozen? ⟨pb, i, none⟩ = false := by
  simp only [World.frozen?]; rw [h.box]; simp
/-- One of its nets has stepped. -/
def upd2 {α : Type} (f : Nat → α) (c : Nat) (x : α) (i : Nat) : α := if i = c then x else f i
theorem upd2_at {α : Type} (f : Nat → α) (c : Nat) (x : α) : upd2 f c x c = x := if_pos rfl
theorem upd2_off {α : Type} (f : Nat → α) (c i : Nat) (x : α) (h : i ≠ c) : upd2 f c x i = f i := if_neg h
/-- The mark of a step. -/
def mkP (st : Int) (i : Nat) : Int := 1 + (7 * st + i) % 250
end Go.Proofs.Ytpbanjgjljdepaa
