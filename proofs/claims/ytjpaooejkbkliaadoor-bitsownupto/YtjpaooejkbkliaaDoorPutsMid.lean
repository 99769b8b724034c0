/- BitsPuts: what is held in the middle of a round. -/
import Derived.Test.YtjpaooejkbkliaaDoorTurned
import Derived.Test.YtjpaooejkbkliaaDoorHead
namespace Go.Proofs.YtjpaooejkbkliaaDoor
open Go.RowKit
set_option maxRecDepth 100000

/-- How many bytes fields may take. -/
def total (xs : List Itm) : Nat := (xs.map fun x => x.dl + 8).sum
theorem lenTo_total (xs : List Itm) (h : ∀ x ∈ xs, x.ds.length = x.dl) (k : Nat) (hk : k < xs.length) : lenTo xs k + (xs[k].dl + 8) ≤ total xs := by
  induction xs generalizing k with
  | nil => simp at hk
  | cons x xs ih =>
    have e : total (x :: xs) = x.dl + 8 + total xs := by simp [total]
    cases k with
    | zero => simp [lenTo, putsL, e]
    | succ k =>
      have h1 := ih (fun y hy => h y (by simp [hy])) k (by simpa using hk)
      have e1 : lenTo (x :: xs) (k + 1) = putN x.K x.ds.length + lenTo xs k := by
        unfold lenTo
        rw [List.take_succ_cons]
        show (putL x.K x.X x.S x.ds ++ putsL (xs.take k)).length = _
        rw [List.length_append, putL_length]
      have h2 := putN_le x.K x.ds.length
      have h3 := h x (by simp)
      rw [e1, e]
      simp only [List.getElem_cons_succ]
      omega
theorem len_total (xs : List Itm) : xs.length * 8 ≤ total xs := by
  induction xs with
  | nil => simp
  | cons x xs ih =>
    have e : total (x :: xs) = x.dl + 8 + total xs := by simp [total]
    rw [e, List.length_cons]; omega
theorem puts_small (ls : List Itm) (w : World) (h : ∀ x ∈ ls, Came w x) : ∀ y ∈ putsL ls, 0 ≤ y ∧ y ≤ 255 := by
  intro y hy
  have hbe : ∀ (X : Int) (k : Nat), ∀ y ∈ be X k, 0 ≤ y ∧ y ≤ 255 := by
    intro X k
    induction k with
    | zero => intro y hy; simp [be] at hy
    | succ k ih =>
      intro y hy
      simp only [be, List.mem_cons] at hy
      rcases hy with rfl | hy
      · omega
      · exact ih y hy
  obtain ⟨x, hx, hy⟩ := List.mem_flatMap.1 hy
  have hs := (h x hx).small
  unfold putL at hy
  have htx : ∀ y ∈ be (x.ds.length : Int) 4 ++ x.ds ++ List.replicate (padN x.ds.length) 0, 0 ≤ y ∧ y ≤ 255 := by
    intro y hy
    rcases List.mem_append.1 hy with hy | hy
    · rcases List.mem_append.1 hy with hy | hy
      · exact hbe _ _ y hy
      · exact hs y hy
    · have := List.eq_of_mem_replicate hy
      omega
  by_cases h1 : x.K = 1
  · rw [if_pos h1] at hy; exact hbe _ _ y hy
  by_cases h2 : x.K = 2
  · rw [if_neg h1, if_pos h2] at hy; exact hbe _ _ y hy
  by_cases h3 : x.K = 3
  · rw [if_neg h1, if_neg h2, if_pos h3] at hy; exact hbe _ _ y hy
  by_cases h4 : x.K = 4
  · rw [if_neg h1, if_neg h2, if_neg h3, if_pos h4] at hy; exact htx y hy
  by_cases h5 : x.K = 5
  · rw [if_neg h1, if_neg h2, if_neg h3, if_neg h4, if_pos h5] at hy; exact htx y hy
  rw [if_neg h1, if_neg h2, if_neg h3, if_neg h4, if_neg h5] at hy
  cases hy

/-- What is held in the middle of a round: the list and the document's, the field as it came, both new lists with their room, the field's copy in a box. -/
structure PMid (base : Nat) (W : World) (al am : Option Addr) (N cl cm : Nat) (L : List Int) (g1 c1 g2 c2 bx ib io : Nat) (x : Itm) : Prop where
  l : Lies W al N cl L
  m : Lies W am N cm L
  it : ∀ j v, x.cells[j]? = some v → W.cell? ⟨ib, io + j, none⟩ = some v
  d : Lies W x.bo x.dl x.dc x.ds
  f : W.ownsRow base 5 1 (.slice (some ⟨g1, 0, none⟩) (N + 3) c1) (N + 3) ((L ++ three).map (Value.int .u8))
  e : W.ownsRow base 5 1 (.slice (some ⟨g2, 0, none⟩) (x.dl + 3) c2) (x.dl + 3) ((x.ds ++ three).map (Value.int .u8))
  b : Box4 W bx x.K x.X x.S (.slice (some ⟨g2, 0, none⟩) x.dl c2)
theorem PMid.below {base : Nat} {W W' : World} {al am : Option Addr} {N cl cm : Nat} {L : List Int} {g1 c1 g2 c2 bx ib io : Nat} {x : Itm} (h : PMid base W al am N cl cm L g1 c1 g2 c2 bx ib io x) (hb : Below W.heap.size W W') : PMid base W' al am N cl cm L g1 c1 g2 c2 bx ib io x :=
  ⟨h.l.below hb (Nat.le_refl _), h.m.below hb (Nat.le_refl _), fun j v hv => cell_later hb (h.it j v hv), h.d.below hb (Nat.le_refl _), own_later h.f hb, own_later h.e hb, h.b.below hb⟩
theorem PMid.row1 {base : Nat} {W : World} {al am : Option Addr} {N cl cm : Nat} {L : List Int} {g1 c1 g2 c2 bx ib io : Nat} {x : Itm} (h : PMid base W al am N cl cm L g1 c1 g2 c2 bx ib io x) (hs : ∀ y ∈ L, 0 ≤ y ∧ y ≤ 255) : Row W base g1 (N + 3) c1 :=
  ⟨_, fun z hz => by
    rcases List.mem_append.1 hz with h | h
    · exact hs z h
    · simp [three] at h; omega, h.f⟩
theorem PMid.row2 {base : Nat} {W : World} {al am : Option Addr} {N cl cm : Nat} {L : List Int} {g1 c1 g2 c2 bx ib io : Nat} {x : Itm} (h : PMid base W al am N cl cm L g1 c1 g2 c2 bx ib io x) (hs : ∀ y ∈ x.ds, 0 ≤ y ∧ y ≤ 255) : Row W base g2 (x.dl + 3) c2 :=
  ⟨_, fun z hz => by
    rcases List.mem_append.1 hz with h | h
    · exact hs z h
    · simp [three] at h; omega, h.e⟩
/-- The list ahead of its room. -/
theorem own_front {w : World} {base g n c : Nat} {L : List Int} (hl : L.length = n) (h : w.ownsRow base 5 1 (.slice (some ⟨g, 0, none⟩) (n + 3) c) (n + 3) ((L ++ three).map (Value.int .u8))) : Lies w (some ⟨g, 0, none⟩) n c L := by
  have hL := Lies.own h
  refine ⟨hl, by have := hL.hle; omega, (fun h => by cases h), fun ad had t u hu => hL.hcells ad had t u ?_⟩
  rw [List.map_append, List.getElem?_append_left (by
    have := (List.getElem?_eq_some_iff.1 hu).1
    simpa using this)]
  exact hu
theorem own_turn {w W : World} {base n g h k : Nat} {v : Value} {xs : List Value} (o : w.ownsRow base 5 1 v n xs) (t : Turn g h w W) (hk : k ≤ base) (hg : g < k) (hh : h < k) : W.ownsRow base 5 1 v n xs := by
  obtain ⟨h1, h2⟩ := o
  refine ⟨h1, ?_⟩
  rcases h2 with h2 | ⟨b, cap, cur, hv, hb, hc, r⟩
  · exact Or.inl h2
  · exact Or.inr ⟨b, cap, cur, hv, hb, (t.block _ (lt_of_block hc) (by omega) (by omega)).trans hc, r⟩
end Go.Proofs.YtjpaooejkbkliaaDoor
