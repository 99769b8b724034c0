/- What the statements' loops hold. -/
import Derived.Test.YtjaheoccofcklabDoorR12
namespace Go.Proofs.YtjaheoccofcklabDoor
open Go.RowKit
set_option maxRecDepth 100000

theorem Rws.eset {w : World} {b : Nat} (h : Rws w) (hg : 0 < b) (e : Est) : Rws (eset w b e) := by
  have hb : Below b w (Go.Proofs.YtjaheoccofcklabDoor.eset w b e) := below_eset (Below.refl b w) (Nat.le_refl _) e
  have g : ∀ {k : Nat} {v' : Value}, w.cell? ⟨0, k, none⟩ = some v' → (Go.Proofs.YtjaheoccofcklabDoor.eset w b e).cell? ⟨0, k, none⟩ = some v' := fun {k v'} hc => (hb.cell hg).trans hc
  exact ⟨g h.c0, g h.c1, g h.c2, g h.c3, g h.c4, g h.c5, g h.c6, g h.c7⟩
theorem eset_size {w : World} {b : Nat} (e : Est) : w.heap.size ≤ (eset w b e).heap.size := (below_eset (Below.refl 0 w) (Nat.zero_le _) e).size
theorem PB.eset {w : World} {b b' : Nat} {p : Par} (h : PB w b p) (hn : b ≠ b') (e : Est) : PB (eset w b' e) b p :=
  ⟨((((h.box.off hn _).off hn _).off hn _).off hn _).off hn _, Nat.lt_of_lt_of_le h.lt (eset_size e)⟩
theorem EB.eset {w : World} {b b' : Nat} {x : Est} (h : EB w b x) (hn : b ≠ b') (e : Est) : EB (eset w b' e) b x :=
  ⟨((((h.box.off hn _).off hn _).off hn _).off hn _).off hn _, Nat.lt_of_lt_of_le h.lt (eset_size e)⟩
theorem EB.set {w : World} {b : Nat} {x : Est} (h : EB w b x) (e : Est) : EB (Go.Proofs.YtjaheoccofcklabDoor.eset w b e) b e :=
  ⟨h.box.set e, Nat.lt_of_lt_of_le h.lt (eset_size e)⟩
/-- A loop's world: the table, the params, an estimate; what was there at the start is as it was. -/
structure Lp (w0 w : World) (bp be : Nat) (p : Par) (e : Est) : Prop where
  T : Rws w
  P : PB w bp p
  E : EB w be e
  F : Below w0.heap.size w0 w
  ne : bp ≠ be
  ge : w0.heap.size ≤ be
  gt : 0 < be
theorem Lp.later {w0 w w' : World} {bp be : Nat} {p : Par} {e : Est} (h : Lp w0 w bp be p e) (hb : Below w.heap.size w w') : Lp w0 w' bp be p e :=
  ⟨h.T.next hb, h.P.later hb, h.E.later hb, frN h.F hb, h.ne, h.ge, h.gt⟩
theorem Lp.set {w0 w : World} {bp be : Nat} {p : Par} {e : Est} (h : Lp w0 w bp be p e) (e' : Est) : Lp w0 (eset w be e') bp be p e' :=
  ⟨h.T.eset h.gt e', h.P.eset h.ne e', h.E.set e', below_eset h.F h.ge e', h.ne, h.ge, h.gt⟩

/-- What the variation of like samples becomes. -/
def vv (r : Int) : Nat → Int
  | 0 => 2 * r
  | k + 1 => vv r k - vv r k / 4
theorem vv_bounds (r : Int) (h0 : 1 ≤ r) (h1 : r ≤ 1048576) : ∀ k, 0 ≤ vv r k ∧ vv r k ≤ 2097152 ∧ vv r k ≤ vv 1048576 k
  | 0 => by simp only [vv]; omega
  | k + 1 => by
    have := vv_bounds r h0 h1 k
    simp only [vv]
    omega
theorem vv_small : ∀ k, vv 1048576 (64 + k) ≤ 3
  | 0 => by decide
  | k + 1 => by
    have h := vv_small k
    have h2 := vv_bounds 1048576 (by decide) (by decide) (64 + k)
    show vv 1048576 (64 + k) - vv 1048576 (64 + k) / 4 ≤ 3
    omega
/-- The estimates of like samples. -/
def stE (p : Par) (r : Int) : Nat → Est
  | 0 => startF p
  | k + 1 => sampF p (stE p r k) r
/-- The variation told last. -/
def lastF (r : Int) : Nat → Int
  | 0 => 1073741824
  | k + 1 => vv r k
theorem start_may {p : Par} (h : Ok p) : May p (startF p) := by
  unfold startF
  rw [if_pos h]
  refine ⟨h, ?_⟩
  obtain ⟨h1, h2, h3, h4⟩ := h
  exact ⟨by dsimp only; omega, by dsimp only; omega, by dsimp only; omega, by dsimp only; omega, by dsimp only; omega, by dsimp only; omega, by dsimp only; omega, by dsimp only; omega, Or.inr ⟨rfl, rfl⟩⟩
theorem samp_may {p : Par} {e : Est} (h : May p e) (x : Int) : May p (sampF p e x) := by
  have hl := learn_bounds (e := e) (x := trip x) h.2.1 h.2.2.1 h.2.2.2.1 h.2.2.2.2.1 (trip_bounds x).1 (trip_bounds x).2
  have hp := h.1
  unfold sampF
  rw [if_pos h]
  refine ⟨hp, ?_⟩
  obtain ⟨h1, h2, h3, h4⟩ := hp
  exact ⟨hl.1, hl.2.1, hl.2.2.1, hl.2.2.2, by dsimp only; omega, by dsimp only; omega, by dsimp only; omega, by dsimp only; omega, Or.inl rfl⟩
theorem exp_may {p : Par} {e : Est} (h : May p e) : May p (expF p e) := by
  unfold expF
  rw [if_pos h]
  split
  · rename_i hw
    have hx := exp_keep h hw
    obtain ⟨hp, a, b, c, d, f, g, i, j, k⟩ := h
    exact ⟨hp, a, b, c, d, f, g, by dsimp only; omega, hx.2, k⟩
  · exact h
theorem stE_may {p : Par} (h : Ok p) (r : Int) : ∀ k, May p (stE p r k)
  | 0 => start_may h
  | k + 1 => samp_may (stE_may h r k) r
theorem samp_pos {p : Par} {e : Est} (h : May p e) (x : Int) : sampF p e x = ⟨(learnE e (trip x)).s, (learnE e (trip x)).v, (sampF p e x).r, 0, true⟩ := by
  unfold sampF
  rw [if_pos h]
theorem stE_succ {p : Par} (h : Ok p) {r : Int} (h0 : 1 ≤ r) (h1 : r ≤ 1048576) : ∀ k, ∃ R, stE p r (k + 1) = ⟨8 * r, vv r k, R, 0, true⟩
  | 0 => by
    have ht : trip r = r := by unfold trip; omega
    have hx : sampF p (startF p) r = _ := samp_pos (start_may h) r
    rw [ht] at hx
    have hs : startF p = ⟨0, 0, p.fi, 0, false⟩ := by unfold startF; rw [if_pos h]
    refine ⟨(sampF p (startF p) r).r, ?_⟩
    show sampF p (startF p) r = _
    rw [hx, hs]
    rfl
  | k + 1 => by
    obtain ⟨R, hR⟩ := stE_succ h h0 h1 k
    have ht : trip r = r := by unfold trip; omega
    have hm := stE_may h r (k + 1)
    have hx : sampF p (stE p r (k + 1)) r = _ := samp_pos hm r
    refine ⟨(sampF p (stE p r (k + 1)) r).r, ?_⟩
    show sampF p (stE p r (k + 1)) r = _
    rw [ht, hR] at hx
    rw [hR, hx]
    simp only [learnE, if_true]
    have e1 : 8 * r + (r - 8 * r / 8) = 8 * r := by omega
    have e2 : vv r k + (max (r - 8 * r / 8) (8 * r / 8 - r) - vv r k / 4) = vv r (k + 1) := by simp only [vv]; omega
    rw [e1, e2]
end Go.Proofs.YtjaheoccofcklabDoor
