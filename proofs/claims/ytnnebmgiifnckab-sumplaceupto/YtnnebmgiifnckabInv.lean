/- Two rows of lists that were kept, and their lists: what stays where one of them is appended to. -/
import Derived.Test.YtnnebmgiifnckabSplit
import Derived.Test.YtnnebmgiifnckabBytes
namespace Go.Proofs.Ytnnebmgiifnckab
open Go.RowKit
set_option maxRecDepth 100000

theorem Try.infoTB : (Try.prog.info? 26).map (fun i => (i.zero, i.size, i.bytes)) = some (some (.slice none 0 0), 1, 24) := by kernel_rfl

theorem below_grown {w w' : World} (h : Below w.heap.size w w') : w.grownBy w' none := ⟨h.os, h.tape, h.output, h.size, fun i hi _ => h.block i hi⟩
theorem own_below {w w' : World} {base n : Nat} {v : Value} {xs : List Value} {e size : Nat} (h : w.ownsRow base e size v n xs) (hb : Below w.heap.size w w') : w'.ownsRow base e size v n xs := by
  refine h.kept (below_grown hb) ?_
  cases hv : v.ownBlock
  · exact Or.inl rfl
  · exact Or.inr (by simp)

/-- A list of bytes and a row of lists do not share a block. -/
theorem own_unlike {w : World} {B B' m n : Nat} {u v : Value} {xs ys : List Value} (hu : w.ownsRow B 5 1 u m xs) (hv : w.ownsRow B' 26 1 v n ys) : u.ownBlock = none ∨ u.ownBlock ≠ v.ownBlock := by
  rcases hu.2 with ⟨rfl, _⟩ | ⟨g, cap, cur, rfl, _, hh, _⟩
  · exact Or.inl rfl
  · right
    intro e
    rcases hv.2 with ⟨rfl, _⟩ | ⟨g', cap', cur', rfl, _, hh', _⟩
    · cases e
    · cases e
      rw [hh] at hh'
      cases hh'

/-- Two lists of the same bytes. -/
def Pair (B : Nat) (w : World) (x y : Value) : Prop :=
  ∃ (m : Nat) (xs : List Int), m ≤ 2097152 ∧ w.ownsRow B 5 1 x m (xs.map (Value.int .u8)) ∧ w.ownsRow B 5 1 y m (xs.map (Value.int .u8))
theorem Pair.below {B : Nat} {w w' : World} {x y : Value} (h : Pair B w x y) (hb : Below w.heap.size w w') : Pair B w' x y := by
  obtain ⟨m, xs, hm, h1, h2⟩ := h
  exact ⟨m, xs, hm, own_below h1 hb, own_below h2 hb⟩
theorem own_laid {w w' : World} {B B' m n k : Nat} {u v v' : Value} {xs ys : List Value} (hu : w.ownsRow B 5 1 u m xs) (hv : w.ownsRow B' 26 1 v n ys) (hl : Laid w w' v v' n k) : w'.ownsRow B 5 1 u m xs := by
  rcases hl with ⟨g, cap, rfl, _, hg⟩ | ⟨cap', _, hg⟩
  · exact hu.kept hg (own_unlike hu hv)
  · refine hu.kept hg ?_
    cases hv : u.ownBlock
    · exact Or.inl rfl
    · exact Or.inr (by simp)
theorem Pair.laid {w w' : World} {B B' n k : Nat} {v v' x y : Value} {ys : List Value} (h : Pair B w x y) (hv : w.ownsRow B' 26 1 v n ys) (hl : Laid w w' v v' n k) : Pair B w' x y := by
  obtain ⟨m, xs, hm, h1, h2⟩ := h
  exact ⟨m, xs, hm, own_laid h1 hv hl, own_laid h2 hv hl⟩

/-- The two rows. -/
structure Inv (B kg kw : Nat) (w : World) (vg vw : Value) (Vg Vw : List Value) : Prop where
  og : w.ownsRow B 26 1 vg kg Vg
  ow : w.ownsRow B 26 1 vw kw Vw
  ap : ∀ b, vg.ownBlock = some b → ¬ vw.ownBlock = some b
  pr : ∀ (j : Nat) x y, Vg[j]? = some x → Vw[j]? = some y → Pair B w x y
theorem Inv.below {B kg kw : Nat} {w w' : World} {vg vw : Value} {Vg Vw : List Value} (h : Inv B kg kw w vg vw Vg Vw) (hb : Below w.heap.size w w') : Inv B kg kw w' vg vw Vg Vw :=
  ⟨own_below h.og hb, own_below h.ow hb, h.ap, fun j x y hx hy => (h.pr j x y hx hy).below hb⟩
theorem laid_other {w w' : World} {B n k m : Nat} {u v v' : Value} {xs : List Value} (hu : w.ownsRow B 26 1 u m xs) (hne : ∀ b, v.ownBlock = some b → ¬ u.ownBlock = some b) (hl : Laid w w' v v' n k) :
    w'.ownsRow B 26 1 u m xs ∧ ∀ b, v'.ownBlock = some b → ¬ u.ownBlock = some b := by
  rcases hl with ⟨g, cap, rfl, rfl, hg⟩ | ⟨cap', rfl, hg⟩
  · exact ⟨hu.kept hg (Or.inr (hne g rfl)), hne⟩
  · refine ⟨hu.kept hg ?_, fun b hb hub => ?_⟩
    · cases hv : u.ownBlock
      · exact Or.inl rfl
      · exact Or.inr (by simp)
    · cases hb
      exact Nat.lt_irrefl _ (hu.lt _ hub).2
theorem Inv.given {B k : Nat} {w w' : World} {vg vw vg' : Value} {Vg Vw : List Value} {x : Value} (h : Inv B k k w vg vw Vg Vw) (ho : w'.ownsRow B 26 1 vg' (k + 1) (Vg ++ [x])) (hl : Laid w w' vg vg' k (k + 1)) : Inv B (k + 1) k w' vg' vw (Vg ++ [x]) Vw := by
  obtain ⟨h1, h2⟩ := laid_other h.ow h.ap hl
  refine ⟨ho, h1, h2, fun j a b ha hb => ?_⟩
  have hlg : Vg.length = k := by simpa using h.og.1
  have hlw : Vw.length = k := by simpa using h.ow.1
  have hj : j < k := by
    have := (List.getElem?_eq_some_iff.1 hb).1
    omega
  rw [List.getElem?_append_left (by omega)] at ha
  exact (h.pr j a b ha hb).laid h.og hl
theorem Inv.was {B k : Nat} {w w' : World} {vg vw vw' : Value} {Vg Vw : List Value} {y : Value} (h : Inv B (k + 1) k w vg vw Vg Vw) (ho : w'.ownsRow B 26 1 vw' (k + 1) (Vw ++ [y])) (hl : Laid w w' vw vw' k (k + 1)) (hp : ∀ x, Vg[k]? = some x → Pair B w x y) : Inv B (k + 1) (k + 1) w' vg vw' Vg (Vw ++ [y]) := by
  obtain ⟨h1, h2⟩ := laid_other h.og (fun b hb hg => h.ap b hg hb) hl
  refine ⟨h1, ho, fun b hb hw => h2 b hw hb, fun j a b ha hb => ?_⟩
  have hlw : Vw.length = k := by simpa using h.ow.1
  by_cases hj : j < k
  · rw [List.getElem?_append_left (by omega)] at hb
    exact (h.pr j a b ha hb).laid h.ow hl
  · have hjk : j = k := by
      have := (List.getElem?_eq_some_iff.1 hb).1
      simp at this; omega
    subst hjk
    rw [List.getElem?_append_right (by omega)] at hb
    simp [hlw] at hb
    subst hb
    exact (hp a ha).laid h.ow hl
theorem laid_below {w0 w w' : World} {B n k : Nat} {v v' : Value} {ys : List Value} (hb : Below B w0 w) (hs : B ≤ w.heap.size) (hv : w.ownsRow B 26 1 v n ys) (hl : Laid w w' v v' n k) : Below B w0 w' := by
  rcases hl with ⟨g, cap, rfl, _, hg⟩ | ⟨cap', _, hg⟩
  · exact hb.grown hg hs (fun b hb => by cases hb; exact (hv.lt _ rfl).1)
  · exact hb.grown hg hs (fun b hb => by cases hb)
end Go.Proofs.Ytnnebmgiifnckab
