/- The one play of NetPlays, and how its book is resliced. -/
import Derived.Test.YtpbanjgjljdepaaKM1
namespace Go.Proofs.Ytpbanjgjljdepaa
open Go.RowKit Go.Maps
set_option maxRecDepth 100000
variable {w w' w0 w1 W W' : World} {lab lab' L : Nat → Nat} {k j pb c xb : Nat} {a b : Nat → Nat} {v bv bv' l rv : Value} {st : Int} {lg : Bool} {F : Nat → Prop} {S R : Nat → St} {es : List Ke} {B B' : Int} {n m : Nat}
theorem Bk.cutR {K : Nat → Prop} {g off E bc : Nat} (h : Bk w K (.slice (some ⟨g, off, none⟩) E bc) es) (hE : es.length = E) (q : Nat) (hq : q ≤ E) : Bk w K (.slice (some ⟨g, off + q * 3, none⟩) (E - q) (bc - q)) (es.drop q) := by
  have hr := h.row
  rw [hE] at hr
  refine ⟨by rw [List.length_drop, hE, kcs_drop]; exact tl_cut hr q hq, fun b e => h.kb b e, fun e he => h.ml e (List.mem_of_mem_drop he), fun e he => h.km e (List.mem_of_mem_drop he), fun e he => h.le e (List.mem_of_mem_drop he)⟩
theorem Pl.cutR {g off E bc : Nat} (h : Pl w lab k pb a b (.slice (some ⟨g, off, none⟩) E bc) st lg S R es) (hE : es.length = E) (q : Nat) (hq : q ≤ E) (hw : w' = w.setCell ⟨pb, 4, none⟩ (.slice (some ⟨g, off + q * 3, none⟩) (E - q) (bc - q))) : Pl w' lab k pb a b (.slice (some ⟨g, off + q * 3, none⟩) (E - q) (bc - q)) st lg S R (es.drop q) ∧ Fr k w w' lab lab := by
  have t : Turns (fun i => i = pb) w w' := by rw [hw]; exact Turns.cell w pb 4 _
  have no : ∀ q, q ≠ k + 5 → ∀ i, i < w.heap.size → lab i = q → ¬ i = pb := fun q hq i _ r s => hq (by rw [← r, s]; exact h.lb)
  refine ⟨⟨?_, fun e he => (h.n e he).turns t (no _ (by omega)) (fun _ _ q => q), fun e he => (h.d e he).turns t (no _ (by omega)) (fun _ _ q => q), (h.bk.cutR hE q hq).relab t (no _ (by omega)) (fun _ _ q => q), h.lb, by have := h.few; rw [List.length_drop]; omega, h.short⟩, ⟨t.mono (fun i _ r => by subst r; rw [h.lb]; exact ⟨by omega, by omega⟩), fun _ _ _ => rfl⟩⟩
  rw [hw, heap_setCell_same _ _ _ _ _ _ h.box]; rfl
/-- The play, whatever it holds. -/
def Ps (w0 w : World) (pb : Nat) (B : Int) : Prop := ∃ lab, Py w lab 1 pb B ∧ Wk w0 lab w
theorem Ps.below (h : Ps w0 w pb B) (u : Below w.heap.size w w') : Ps w0 w' pb B := by
  obtain ⟨lab, h1, h2⟩ := h
  exact ⟨rl lab w 7, h1.turns (Below.turns u (fun _ => False)) (fun _ _ _ r => r) (fun _ hi' _ => rl_old hi'), h2.below u 7⟩
end Go.Proofs.Ytpbanjgjljdepaa
