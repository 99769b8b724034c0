/- Doubling. -/
import Derived.Test.YtjaheoccofcklaaDoorS0
namespace Go.Proofs.YtjaheoccofcklaaDoor
open Go.RowKit
set_option maxRecDepth 100000

/-- Times that ran out, one behind the other. -/
def exI (p : Par) (e : Est) : Nat → Est
  | 0 => e
  | k + 1 => expF p (exI p e k)
theorem exI_may {p : Par} {e : Est} (h : May p e) : ∀ k, May p (exI p e k)
  | 0 => h
  | k + 1 => exp_may (exI_may h k)
theorem exp_form {p : Par} {e : Est} (h : May p e) : (expF p e).s = e.s ∧ (expF p e).v = e.v ∧ (expF p e).r = e.r ∧ (expF p e).k = e.k := by
  unfold expF
  rw [if_pos h]
  split <;> exact ⟨rfl, rfl, rfl, rfl⟩
theorem exI_form {p : Par} {e : Est} (h : May p e) : ∀ k, (exI p e k).s = e.s ∧ (exI p e k).v = e.v ∧ (exI p e k).r = e.r ∧ (exI p e k).k = e.k
  | 0 => ⟨rfl, rfl, rfl, rfl⟩
  | k + 1 => by
    obtain ⟨a, b, c, d⟩ := exp_form (exI_may h k)
    obtain ⟨a', b', c', d'⟩ := exI_form h k
    exact ⟨a.trans a', b.trans b', c.trans c', d.trans d'⟩
theorem wait_pos {p : Par} {e : Est} (h : May p e) : waitF p e = min p.ma (e.r * 2 ^ e.n.toNat) := by unfold waitF; rw [if_pos h]
theorem wait_bounds {p : Par} {e : Est} (h : May p e) : p.mi ≤ waitF p e ∧ waitF p e ≤ p.ma ∧ 1 ≤ waitF p e := by
  have hb := rto_big h
  rw [wait_pos h]
  obtain ⟨⟨h1, h2, h3, h4⟩, _⟩ := h
  omega
theorem wait_exp {p : Par} {e : Est} (h : May p e) : waitF p (expF p e) = min p.ma (2 * waitF p e) := by
  have hb := wait_bounds h
  by_cases hw : waitF p e < p.ma
  · have hx := exp_may h
    rw [wait_pos hx]
    have he : expF p e = { e with n := e.n + 1 } := by unfold expF; rw [if_pos h, if_pos hw]
    rw [he]
    have hn : 0 ≤ e.n := h.2.2.2.2.2.2.2.1
    have ht : (e.n + 1).toNat = e.n.toNat + 1 := by omega
    simp only [ht, Int.pow_succ]
    have hp : waitF p e = e.r * 2 ^ e.n.toNat := by rw [wait_pos h] at hw ⊢; omega
    rw [hp]
    congr 1
    rw [← Int.mul_assoc, Int.mul_comm]
  · have he : expF p e = e := by unfold expF; rw [if_pos h, if_neg hw]
    rw [he]
    omega
theorem exI_wait {p : Par} {e : Est} (h : May p e) : ∀ k, min p.ma (((2 ^ k : Nat) : Int)) ≤ waitF p (exI p e k)
  | 0 => by
    have := wait_bounds h
    show min p.ma 1 ≤ waitF p e
    omega
  | k + 1 => by
    have := exI_wait h k
    have hwb := wait_bounds (exI_may h k)
    show _ ≤ waitF p (expF p (exI p e k))
    rw [wait_exp (exI_may h k)]
    have e2 : ((2 ^ (k + 1) : Nat) : Int) = 2 * ((2 ^ k : Nat) : Int) := by rw [Nat.pow_succ]; omega
    rw [e2]
    omega
theorem exI_full {p : Par} {e : Est} (h : May p e) : waitF p (exI p e 20) = p.ma := by
  have a := exI_wait h 20
  have b := wait_bounds (exI_may h 20)
  obtain ⟨⟨h1, h2, h3, h4⟩, _⟩ := h
  have c : ((2 ^ 20 : Nat) : Int) = 1048576 := by decide
  rw [c] at a
  omega
theorem learn_same {e f : Est} (hs : f.s = e.s) (hv : f.v = e.v) (hk : f.k = e.k) (x : Int) : (learnE f x).s = (learnE e x).s ∧ (learnE f x).v = (learnE e x).v := by
  unfold learnE
  rw [hk, hs, hv]
  split <;> exact ⟨rfl, rfl⟩
theorem samp_same {p : Par} {e f : Est} (he : May p e) (hf : May p f) (hs : f.s = e.s) (hv : f.v = e.v) (hk : f.k = e.k) (x : Int) : sampF p f x = sampF p e x := by
  obtain ⟨a, b⟩ := learn_same hs hv hk (trip x)
  unfold sampF
  rw [if_pos he, if_pos hf, a, b]
theorem samp_wait {p : Par} {e : Est} (h : May p e) (x : Int) : waitF p (sampF p e x) = (sampF p e x).r := by
  have hm := samp_may h x
  rw [wait_pos hm]
  have hn : (sampF p e x).n = 0 := by rw [samp_pos h]
  have hr : (sampF p e x).r ≤ p.ma := hm.2.2.2.2.2.2.1
  rw [hn]
  simp only [Int.toNat_zero, Int.pow_zero, Int.mul_one]
  omega
end Go.Proofs.YtjaheoccofcklaaDoor
