/- A change within four neighbouring bytes is always told: as numbers, and of lists. -/
import Derived.Test.YtnnebmgiifnckabMath
namespace Go.Proofs.Ytnnebmgiifnckab
open Go.RowKit
set_option maxRecDepth 100000

theorem xor_high {h x : Int} (hh : U h) (hx : By x) : bits .xor .u64 h x / 256 = h / 256 := by
  rw [xorN hh hx.u]
  have h1 := hh.1; have h2 := hx.1; have h3 := hx.2
  have e : (h.toNat ^^^ x.toNat) / 256 = h.toNat / 256 := by
    have s := Nat.shiftRight_xor_distrib (a := h.toNat) (b := x.toNat) (i := 8)
    rw [Nat.shiftRight_eq_div_pow, Nat.shiftRight_eq_div_pow, Nat.shiftRight_eq_div_pow] at s
    have z : x.toNat / 2 ^ 8 = 0 := Nat.div_eq_of_lt (by omega)
    rw [z, Nat.xor_zero] at s
    exact s
  omega

theorem four_zero {d u v e K : Int} (hd : -255 ≤ d ∧ d ≤ 255) (hu : -510 ≤ u ∧ u ≤ 510) (hv : -510 ≤ v ∧ v ≤ 510) (he : -255 ≤ e ∧ e ≤ 255)
    (h : e = 1099511628211 * (1099511628211 * (1099511628211 * d + u) + v) + 18446744073709551616 * K) : d = 0 ∧ u = 0 ∧ v = 0 ∧ e = 0 := by
  have hS : 82312875 * d + 189225 * u + 435 * v - e = 0 := by omega
  have hd1 : -1 ≤ d ∧ d ≤ 1 := by omega
  have hT : 567675 * d + 870 * u + v = 0 := by omega
  omega

theorem step_diff {A B : Int} : ∃ k, IntKind.u64.wrap (A * 1099511628211) - IntKind.u64.wrap (B * 1099511628211) = 1099511628211 * (A - B) + 18446744073709551616 * k := by
  refine ⟨B * 1099511628211 / 18446744073709551616 - A * 1099511628211 / 18446744073709551616, ?_⟩
  rw [IntKind.wrap_u64, IntKind.wrap_u64]
  omega

theorem near4 {g b0 b1 b2 b3 c0 c1 c2 c3 : Int} (hg : U g) (p0 : By b0) (p1 : By b1) (p2 : By b2) (p3 : By b3) (q0 : By c0) (q1 : By c1) (q2 : By c2) (q3 : By c3)
    (h : stp (stp (stp (stp g b0) b1) b2) b3 = stp (stp (stp (stp g c0) c1) c2) c3) : b0 = c0 ∧ b1 = c1 ∧ b2 = c2 ∧ b3 = c3 := by
  have hu1 := U.stp g b0
  have hv1 := U.stp g c0
  have hu2 := U.stp (stp g b0) b1
  have hv2 := U.stp (stp g c0) c1
  have hu3 := U.stp (stp (stp g b0) b1) b2
  have hv3 := U.stp (stp (stp g c0) c1) c2
  have a0 := xor_high hg p0
  have b0' := xor_high hg q0
  have a1 := xor_high hu1 p1
  have b1' := xor_high hv1 q1
  have a2 := xor_high hu2 p2
  have b2' := xor_high hv2 q2
  have a3 := xor_high hu3 p3
  have b3' := xor_high hv3 q3
  obtain ⟨k1, e1⟩ := step_diff (A := bits .xor .u64 g b0) (B := bits .xor .u64 g c0)
  obtain ⟨k2, e2⟩ := step_diff (A := bits .xor .u64 (stp g b0) b1) (B := bits .xor .u64 (stp g c0) c1)
  obtain ⟨k3, e3⟩ := step_diff (A := bits .xor .u64 (stp (stp g b0) b1) b2) (B := bits .xor .u64 (stp (stp g c0) c1) c2)
  have e4 : bits .xor .u64 (stp (stp (stp g b0) b1) b2) b3 = bits .xor .u64 (stp (stp (stp g c0) c1) c2) c3 := by
    rw [← inv_mul (hu3.xor p3.u), ← inv_mul (hv3.xor q3.u)]
    exact congrArg inv h
  have E1 : stp g b0 - stp g c0 = 1099511628211 * (bits .xor .u64 g b0 - bits .xor .u64 g c0) + 18446744073709551616 * k1 := e1
  have E2 : stp (stp g b0) b1 - stp (stp g c0) c1 = 1099511628211 * (bits .xor .u64 (stp g b0) b1 - bits .xor .u64 (stp g c0) c1) + 18446744073709551616 * k2 := e2
  have E3 : stp (stp (stp g b0) b1) b2 - stp (stp (stp g c0) c1) c2 = 1099511628211 * (bits .xor .u64 (stp (stp g b0) b1) b2 - bits .xor .u64 (stp (stp g c0) c1) c2) + 18446744073709551616 * k3 := e3
  clear e1 e2 e3
  have hz := four_zero (d := bits .xor .u64 g b0 - bits .xor .u64 g c0)
    (u := (bits .xor .u64 (stp g b0) b1 - bits .xor .u64 (stp g c0) c1) - (stp g b0 - stp g c0))
    (v := (bits .xor .u64 (stp (stp g b0) b1) b2 - bits .xor .u64 (stp (stp g c0) c1) c2) - (stp (stp g b0) b1 - stp (stp g c0) c1))
    (e := stp (stp (stp g b0) b1) b2 - stp (stp (stp g c0) c1) c2)
    (K := 1099511628211 * (1099511628211 * k1) + 1099511628211 * k2 + k3)
    (by omega) (by omega) (by omega) (by omega) (by omega)
  have r0 : b0 = c0 := xor_inj hg p0.u q0.u (by omega)
  subst r0
  have r1 : b1 = c1 := xor_inj hu1 p1.u q1.u (by omega)
  subst r1
  have r2 : b2 = c2 := xor_inj hu2 p2.u q2.u (by omega)
  subst r2
  exact ⟨rfl, rfl, rfl, xor_inj hu3 p3.u q3.u e4⟩
end Go.Proofs.Ytnnebmgiifnckab
