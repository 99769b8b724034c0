/- above and below of a heap whose keys are ints, by their contracts. -/
import Derived.Test.YtbopghpfghaoeaaH3i
namespace Go.Proofs.Ytbopghpfghaoeaa
open Go.RowKit Go.Maps
set_option maxRecDepth 100000
attribute [local go_sem ↓] Go.wp_at_zero Go.wp_at_succ
theorem above_I (i : Nat) (hi : 0 < i) (hl : i ≤ 4398046511104) (w : World) : Calls Try.prog 70 #[.int .i64 i] w fun e w' => e = .returned (.int .i64 ((i - 1) / 2 : Nat)) ∧ w' = w := by
  have a1 : (i : Int) ≤ 4398046511104 := by omega
  have a2 : (0 : Int) < i := by omega
  go_enter Try.func70, Try.ntmps70
  go_wp2
  go_ret
  exact ⟨by go_num, rfl⟩
/-- What below answers: the one of the two places whose timer is ahead. -/
def BelI (l : List (Int × Int)) (i c : Nat) : Prop := (l.length ≤ c ∧ l.length ≤ 2 * i + 1 ∧ c ≤ 2 * i + 2) ∨ (c < l.length ∧ 0 < c ∧ (c - 1) / 2 = i ∧ ∀ (j : Nat) x y, 0 < j → (j - 1) / 2 = i → l[j]? = some x → l[c]? = some y → ah OI x y = false)
theorem bel_oneI {l : List (Int × Int)} {i : Nat} (h : ¬ 2 * i + 2 < l.length) : BelI l i (2 * i + 1) := by
  by_cases h1 : 2 * i + 1 < l.length
  · refine Or.inr ⟨h1, by omega, by omega, fun j x y hj hji hx hy => ?_⟩
    have hjl := (List.getElem?_eq_some_iff.1 hx).1
    obtain rfl : j = 2 * i + 1 := by omega
    rw [hx] at hy; cases hy
    exact ah_irr _ _
  · exact Or.inl ⟨by omega, by omega, by omega⟩
theorem bel_twoI {l : List (Int × Int)} {i : Nat} {u v : Int × Int} (hu : l[2 * i + 2]? = some u) (hv : l[2 * i + 1]? = some v) : BelI l i (if ah OI u v = true then 2 * i + 2 else 2 * i + 1) := by
  have h2 := (List.getElem?_eq_some_iff.1 hu).1
  split
  · rename_i e
    refine Or.inr ⟨h2, by omega, by omega, fun j x y hj hji hx hy => ?_⟩
    rw [hu] at hy; cases hy
    by_cases q : j = 2 * i + 2
    · subst q; rw [hu] at hx; cases hx; exact ah_irr _ _
    · obtain rfl : j = 2 * i + 1 := by omega
      rw [hv] at hx; cases hx
      exact ah_as _ e
  · rename_i e
    refine Or.inr ⟨by omega, by omega, by omega, fun j x y hj hji hx hy => ?_⟩
    rw [hv] at hy; cases hy
    by_cases q : j = 2 * i + 2
    · subst q; rw [hu] at hx; cases hx; simpa using e
    · obtain rfl : j = 2 * i + 1 := by omega
      rw [hv] at hx; cases hx
      exact ah_irr _ _
set_option maxHeartbeats 1000000 in
theorem below_I {w : World} {lab : Nat → Nat} {k hb bm g : Nat} {rv : Value} {D : DataW Value} {f : Int → Option Nat} {l : List (Int × Int)} (h : Hx KI w lab k hb bm rv D f l g) (i : Nat) (hi : i < l.length) :
    Calls Try.prog 71 #[.pointer (some ⟨hb, 0, none⟩), .int .i64 i] w fun e w' => ∃ c : Nat, e = .returned (.int .i64 c) ∧ BelI l i c ∧ Below w.heap.size w w' := by
  obtain ⟨c0, c1, c2, c3, fz⟩ := h.cells
  have hl := h.hl
  have a0 : (i : Int) < 4398046511104 := by omega
  by_cases h2 : 2 * i + 2 < l.length
  · have HB := bel_twoI (List.getElem?_eq_getElem h2) (List.getElem?_eq_getElem (show 2 * i + 1 < l.length by omega))
    have x0 := List.getElem?_eq_getElem (l := l) (show 2 * i + 1 < l.length by omega)
    have y0 := List.getElem?_eq_getElem (l := l) (show 2 * i + 2 < l.length by omega)
    generalize l[2 * i + 2] = u at HB y0
    generalize l[2 * i + 1] = v at HB x0
    obtain ⟨c, hc⟩ : ∃ c, 2 * i + 1 = c := ⟨_, rfl⟩
    rw [show 2 * i + 2 = c + 1 by omega, hc] at HB
    rw [hc] at x0
    rw [show 2 * i + 2 = c + 1 by omega] at y0 h2
    have hci : 2 * (i : Int) + 1 = (c : Int) := by omega
    obtain ⟨gr, cap, hrv, hcap, x0, x1, hfz⟩ := h.at x0
    obtain ⟨gr', cap', hrv', _, y0, y1, _⟩ := h.at y0
    rw [hrv] at hrv'
    cases hrv'
    subst hrv
    have hlb := World.block_lt_of_cell? w _ c0
    have hlg := World.block_lt_of_cell? w _ x0
    have HB : Hid (BelI l i (if ah OI u v = true then c + 1 else c)) := HB
    have a1 : (l.length : Int) ≤ cap := by omega
    have a2 : (l.length : Int) ≤ 4398046511104 := by omega
    have a3 : IntKind.i64.wrap ((c : Int) + 1) = (c : Int) + 1 := by rw [IntKind.wrap_i64]; omega
    have a4 : decide ((c : Int) + 1 < l.length) = true := decide_eq_true (by omega)
    have a5 : (0 : Int) ≤ (c : Int) + 1 := by omega
    have a6 : (0 : Int) ≤ c := by omega
    have a7 : (c : Int) + 1 < l.length := by omega
    have a8 : (c : Int) < l.length := by omega
    have HC : Hid (2 * (i : Int) + 1 = (c : Int)) := hci
    clear h h2 hi hc hci c1 c3 fz hfz
    go_enter Try.func71, Try.ntmps71
    go_wp2_with fail
    rw [HC.out]
    clear HC a0
    go_region_held3 (fun w' => w'.cell? ⟨hb, 0, none⟩ = some (.slice (some ⟨gr, 0, none⟩) l.length cap) ∧ w'.cell? ⟨hb, 2, none⟩ = some (.func (.func 38) #[] #[]) ∧ w'.cell? ⟨gr, c * 2, none⟩ = some (.int .i64 v.1) ∧ w'.cell? ⟨gr, c * 2 + 1, none⟩ = some (.int .i64 v.2) ∧ w'.cell? ⟨gr, (c + 1) * 2, none⟩ = some (.int .i64 u.1) ∧ w'.cell? ⟨gr, (c + 1) * 2 + 1, none⟩ = some (.int .i64 u.2))
      (first | exact ⟨c0, c2, x0, x1, y0, y1⟩ | exact ⟨q0, q1, q2, q3, q4, q5⟩)
      (first
        | (go_at_call 38; refine (ahead_I u v _).mono ?_; rintro e wA ⟨rfl, bA⟩; have q0 := (bA.cell (p := ⟨hb, 0, none⟩) hlb).trans c0; have q1 := (bA.cell (p := ⟨hb, 2, none⟩) hlb).trans c2; have q2 := (bA.cell (p := ⟨gr, c * 2, none⟩) hlg).trans x0; have q3 := (bA.cell (p := ⟨gr, c * 2 + 1, none⟩) hlg).trans x1; have q4 := (bA.cell (p := ⟨gr, (c + 1) * 2, none⟩) hlg).trans y0; have q5 := (bA.cell (p := ⟨gr, (c + 1) * 2 + 1, none⟩) hlg).trans y1))
    have BA : Below w.heap.size w wA := (below_drewN w 1).trans bA
    clear q0 q1 q2 q3 q4 q5 x0 x1 y0 y1
    cases e : ah OI u v
    · rw [e] at HB
      go_wp2_with fail
      go_ret
      exact ⟨c, rfl, by simpa using HB.out, BA⟩
    · rw [e] at HB
      go_wp2_with fail
      go_ret
      exact ⟨c + 1, by go_num, by simpa using HB.out, BA⟩
  · obtain ⟨ao, cap, hrv⟩ := own_slice h.row
    subst hrv
    have HB : Hid (BelI l i (2 * i + 1)) := bel_oneI h2
    have a2 : ¬ (2 * (i : Int) + 1 + 1 < l.length) := by omega
    have a3 : IntKind.i64.wrap (2 * (i : Int) + 1 + 1) = 2 * (i : Int) + 1 + 1 := by rw [IntKind.wrap_i64]; omega
    have a4 : decide (2 * (i : Int) + 1 + 1 < l.length) = false := decide_eq_false (by omega)
    clear h h2 hi
    go_enter Try.func71, Try.ntmps71
    go_wp2_with fail
    go_region
    go_wp2_with fail
    go_ret
    exact ⟨2 * i + 1, by simp, HB.out, below_drewN w 1⟩
/-- A heap with a gap at i, in which x is to lie: M, all that is there. -/
def GpI (w : World) (lab : Nat → Nat) (k hb bm : Nat) (rv : Value) (g : Nat) (x : Int × Int) (M l : List (Int × Int)) (i : Nat) : Prop := ∃ D f, Hx KI w lab k hb bm rv D f l g ∧ MG f l i x ∧ HpG OI l i ∧ (l.set i x).Perm M
/-- A heap without a gap. -/
def FlI (w : World) (lab : Nat → Nat) (k hb bm : Nat) (rv : Value) (g : Nat) (l : List (Int × Int)) : Prop := ∃ D f, Hx KI w lab k hb bm rv D f l g ∧ Mp f l ∧ Hp OI l
theorem GpI.turns {F : Nat → Prop} {w w' : World} {lab : Nat → Nat} {k hb bm g : Nat} {rv : Value} {x : Int × Int} {M l : List (Int × Int)} {i : Nat} (h : GpI w lab k hb bm rv g x M l i) (t : Turns F w w') (hF : ∀ i, i < w.heap.size → lab i = k → ¬ F i) : GpI w' lab k hb bm rv g x M l i := by
  obtain ⟨D, f, h1, h2⟩ := h
  exact ⟨D, f, h1.turns t hF (fun _ _ => rfl), h2⟩
theorem GpI.below {w w' : World} {lab : Nat → Nat} {k hb bm g : Nat} {rv : Value} {x : Int × Int} {M l : List (Int × Int)} {i : Nat} (h : GpI w lab k hb bm rv g x M l i) (b : Below w.heap.size w w') : GpI w' lab k hb bm rv g x M l i :=
  h.turns (Below.turns b (fun _ => False)) (fun _ _ _ q => q)
theorem gap_layI {w : World} {lab : Nat → Nat} {k hb bm g : Nat} {rv : Value} {x : Int × Int} {M l : List (Int × Int)} {i : Nat} (h : GpI w lab k hb bm rv g x M l i) {q : Nat} {y : Int × Int} (hq : i ≠ q) (hy : l[q]? = some y) (hp : HpG OI (l.set i y) q) :
    Calls Try.prog 65 #[.pointer (some ⟨hb, 0, none⟩), .int .i64 i, .agg #[.int .i64 y.1, .int .i64 y.2]] w fun e w' => e = .returned (.tuple #[]) ∧ GpI w' lab k hb bm rv g x M (l.set i y) q ∧ Turns (Fb bm rv) w w' := by
  obtain ⟨D, f, h1, h2, h3, h4⟩ := h
  have h5 := h2.move hq hy
  refine (lay_I h1 i h2.hi y (h1.ok y (List.mem_of_getElem? hy)) (((l.set i y).set q x).map Prod.fst) (by simp) h5.dom).mono ?_
  rintro e w' ⟨rfl, ⟨D', h6⟩, t⟩
  exact ⟨rfl, ⟨D', _, h6, h5, hp, (swap_perm hq h2.hi hy x).trans h4⟩, t⟩
theorem gap_doneI {w : World} {lab : Nat → Nat} {k hb bm g : Nat} {rv : Value} {x : Int × Int} {M l : List (Int × Int)} {i : Nat} (h : GpI w lab k hb bm rv g x M l i) (hx : KI.ok x.1) (hp : Hp OI (l.set i x)) :
    Calls Try.prog 65 #[.pointer (some ⟨hb, 0, none⟩), .int .i64 i, .agg #[.int .i64 x.1, .int .i64 x.2]] w fun e w' => e = .returned (.tuple #[]) ∧ (∃ l', FlI w' lab k hb bm rv g l' ∧ l'.Perm M) ∧ Turns (Fb bm rv) w w' := by
  obtain ⟨D, f, h1, h2, h3, h4⟩ := h
  have h5 := h2.done
  refine (lay_I h1 i h2.hi x hx ((l.set i x).map Prod.fst) (by simp) h5.dom).mono ?_
  rintro e w' ⟨rfl, ⟨D', h6⟩, t⟩
  exact ⟨rfl, ⟨_, ⟨D', _, h6, h5, hp⟩, h4⟩, t⟩
theorem gap_belowI {w : World} {lab : Nat → Nat} {k hb bm g : Nat} {rv : Value} {x : Int × Int} {M l : List (Int × Int)} {i : Nat} (h : GpI w lab k hb bm rv g x M l i) :
    Calls Try.prog 71 #[.pointer (some ⟨hb, 0, none⟩), .int .i64 i] w fun e w' => ∃ c : Nat, e = .returned (.int .i64 c) ∧ BelI l i c ∧ Below w.heap.size w w' := by
  obtain ⟨D, f, h1, h2, h3, h4⟩ := h
  exact below_I h1 i h2.hi
end Go.Proofs.Ytbopghpfghaoeaa
