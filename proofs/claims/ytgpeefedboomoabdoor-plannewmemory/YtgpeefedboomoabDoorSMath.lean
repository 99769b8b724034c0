/- The sum's step, forwards and backwards, as numbers; what follows of it. -/
import Derived.Test.YtgpeefedboomoabDoorSBase
namespace Go.Proofs.YtgpeefedboomoabDoor.S2
open Go.RowKit
set_option maxRecDepth 100000

/-- A number of 64 bits. -/
abbrev U (h : Int) : Prop := 0 ≤ h ∧ h ≤ 18446744073709551615
/-- A byte. -/
abbrev By (x : Int) : Prop := 0 ≤ x ∧ x ≤ 255
/-- The step of a number and a byte. -/
def stp (h x : Int) : Int := IntKind.u64.wrap (bits .xor .u64 h x * 1099511628211)
/-- The number times the inverse. -/
def inv (h : Int) : Int := IntKind.u64.wrap (h * 14886173955864302971)
/-- The step undone. -/
def und (h x : Int) : Int := bits .xor .u64 (inv h) x
def fwd (h : Int) (l : List Int) : Int := l.foldl stp h
def bwd (h : Int) (l : List Int) : Int := l.foldr (fun x g => und g x) h

theorem By.u {x : Int} (h : By x) : U x := ⟨h.1, by have := h.2; omega⟩
theorem U.wrap (n : Int) : U (IntKind.u64.wrap n) := by
  rw [IntKind.wrap_u64]; exact ⟨by omega, by omega⟩
theorem xorN {a b : Int} (ha : U a) (hb : U b) : bits .xor .u64 a b = ((a.toNat ^^^ b.toNat : Nat) : Int) := by
  have h1 := ha.1; have h2 := ha.2; have h3 := hb.1; have h4 := hb.2
  exact u64_xor a b h1 (by omega) h3 (by omega)
theorem U.xor {a b : Int} (ha : U a) (hb : U b) : U (bits .xor .u64 a b) := by
  rw [xorN ha hb]
  have h1 := ha.1; have h2 := ha.2; have h3 := hb.1; have h4 := hb.2
  have : a.toNat ^^^ b.toNat < 2 ^ 64 := Nat.xor_lt_two_pow (by omega) (by omega)
  exact ⟨by omega, by omega⟩
theorem xor_self {a b : Int} (ha : U a) (hb : U b) : bits .xor .u64 (bits .xor .u64 a b) b = a := by
  rw [xorN (ha.xor hb) hb, xorN ha hb, Int.toNat_natCast, Nat.xor_assoc, Nat.xor_self, Nat.xor_zero]
  have := ha.1; omega
theorem xor_comm {a b : Int} (ha : U a) (hb : U b) : bits .xor .u64 a b = bits .xor .u64 b a := by
  rw [xorN ha hb, xorN hb ha, Nat.xor_comm]
theorem xor_assoc {a b c : Int} (ha : U a) (hb : U b) (hc : U c) : bits .xor .u64 (bits .xor .u64 a b) c = bits .xor .u64 a (bits .xor .u64 b c) := by
  rw [xorN (ha.xor hb) hc, xorN ha hb, xorN ha (hb.xor hc), xorN hb hc, Int.toNat_natCast, Int.toNat_natCast, Nat.xor_assoc]
theorem xor_inj {a b c : Int} (ha : U a) (hb : U b) (hc : U c) (h : bits .xor .u64 a b = bits .xor .u64 a c) : b = c := by
  have e1 := xor_self hb ha
  have e2 := xor_self hc ha
  rw [xor_comm hb ha] at e1
  rw [xor_comm hc ha] at e2
  rw [← e1, ← e2, h]
theorem U.stp (h x : Int) : U (stp h x) := U.wrap _
theorem U.inv (h : Int) : U (inv h) := U.wrap _
theorem U.und (h : Int) {x : Int} (hx : By x) : U (und h x) := (U.inv h).xor hx.u
theorem inv_mul {a : Int} (ha : U a) : inv (IntKind.u64.wrap (a * 1099511628211)) = a := by
  have h1 := ha.1; have h2 := ha.2
  unfold inv
  rw [IntKind.wrap_u64, IntKind.wrap_u64]
  omega
theorem mul_inv {a : Int} (ha : U a) : IntKind.u64.wrap (inv a * 1099511628211) = a := by
  have h1 := ha.1; have h2 := ha.2
  unfold inv
  rw [IntKind.wrap_u64, IntKind.wrap_u64]
  omega
theorem und_stp {h x : Int} (hh : U h) (hx : By x) : und (stp h x) x = h := by
  unfold und stp
  rw [inv_mul (hh.xor hx.u), xor_self hh hx.u]
theorem stp_und {h x : Int} (hh : U h) (hx : By x) : stp (und h x) x = h := by
  unfold und stp
  rw [xor_self (U.inv h) hx.u, mul_inv hh]
theorem U.fwd {h : Int} (l : List Int) (hh : U h) : U (fwd h l) := by
  induction l generalizing h with
  | nil => exact hh
  | cons x l ih => exact ih (U.stp h x)
theorem U.bwd {h : Int} (l : List Int) (hl : ∀ x ∈ l, By x) (hh : U h) : U (bwd h l) := by
  cases l with
  | nil => exact hh
  | cons x l => exact U.und _ (hl x (by simp))
theorem fwd_append (h : Int) (a b : List Int) : fwd h (a ++ b) = fwd (fwd h a) b := List.foldl_append ..
theorem bwd_append (h : Int) (a b : List Int) : bwd h (a ++ b) = bwd (bwd h b) a := List.foldr_append ..
theorem bwd_fwd {h : Int} (l : List Int) (hl : ∀ x ∈ l, By x) (hh : U h) : bwd (fwd h l) l = h := by
  induction l generalizing h with
  | nil => rfl
  | cons x l ih =>
    show und (bwd (fwd (stp h x) l) l) x = h
    rw [ih (fun y hy => hl y (by simp [hy])) (U.stp h x), und_stp hh (hl x (by simp))]
theorem fwd_bwd {h : Int} (l : List Int) (hl : ∀ x ∈ l, By x) (hh : U h) : fwd (bwd h l) l = h := by
  induction l with
  | nil => rfl
  | cons x l ih =>
    show fwd (stp (und (bwd h l) x) x) l = h
    rw [stp_und (U.bwd l (fun y hy => hl y (by simp [hy])) hh) (hl x (by simp)), ih (fun y hy => hl y (by simp [hy]))]
theorem fwd_inj {g h : Int} (l : List Int) (hl : ∀ x ∈ l, By x) (hg : U g) (hh : U h) : fwd g l = fwd h l ↔ g = h := by
  refine ⟨fun e => ?_, fun e => by rw [e]⟩
  rw [← bwd_fwd l hl hg, ← bwd_fwd l hl hh, e]
theorem bwd_inj {g h : Int} (l : List Int) (hl : ∀ x ∈ l, By x) (hg : U g) (hh : U h) : bwd g l = bwd h l ↔ g = h := by
  refine ⟨fun e => ?_, fun e => by rw [e]⟩
  rw [← fwd_bwd l hl hg, ← fwd_bwd l hl hh, e]
end Go.Proofs.YtgpeefedboomoabDoor.S2
