/- Start, Wait, Expire, Sample. -/
import Derived.Test.YtjaheoccofcklabDoorR7
namespace Go.Proofs.YtjaheoccofcklabDoor
open Go.RowKit
set_option maxRecDepth 100000

theorem res_est2 {fn : Func} {q u : Tmp} (hf : fn.results = #[.cell q 25, .tmp u]) {tmps : Array Value} {b : Nat} (hq : tmps.getD q undef = .pointer (some ⟨b, 0, none⟩)) {w : World} {e : Est} (h : EBox w b e) :
    (results fn tmps).run Tryd.prog w = .ok (.tuple #[esV e, tmps.getD u undef]) w := by
  obtain ⟨h0, h1, h2, h3, h4, _, _, _, _, _⟩ := h
  have hq' : tmps[q]?.getD undef = .pointer (some ⟨b, 0, none⟩) := by rw [← hq]; simp
  simp [results, hf, hq', go_sem, h0, h1, h2, h3, h4]

/-- How long to wait. -/
def waitF (p : Par) (e : Est) : Int := if May p e then min p.ma (e.r * 2 ^ e.n.toNat) else 0
/-- The estimate behind a time that ran out. -/
def expF (p : Par) (e : Est) : Est := if May p e then (if waitF p e < p.ma then { e with n := e.n + 1 } else e) else esZ
/-- A round trip, brought into its bounds. -/
def trip (x : Int) : Int := min (max x 1) 1048576
/-- The estimate behind a round trip. -/
def sampF (p : Par) (e : Est) (x : Int) : Est := if May p e then ⟨(learnE e (trip x)).s, (learnE e (trip x)).v, min (max ((learnE e (trip x)).s / 8 + max (learnE e (trip x)).v 1) p.mi) p.ma, 0, true⟩ else esZ
/-- The estimate at the start. -/
def startF (p : Par) : Est := if Ok p then ⟨0, 0, p.fi, 0, false⟩ else esZ
/-- Its error. -/
def startE (p : Par) : Int := if Ok p then 0 else 1
theorem trip_bounds (x : Int) : 1 ≤ trip x ∧ trip x ≤ 1048576 := by unfold trip; omega
theorem learn_bounds {e : Est} {x : Int} (hs0 : 0 ≤ e.s) (hs1 : e.s ≤ 16777216) (hv0 : 0 ≤ e.v) (hv1 : e.v ≤ 16777216) (hx0 : 1 ≤ x) (hx1 : x ≤ 1048576) :
    0 ≤ (learnE e x).s ∧ (learnE e x).s ≤ 16777216 ∧ 0 ≤ (learnE e x).v ∧ (learnE e x).v ≤ 16777216 := by
  unfold learnE
  split
  · simp only
    omega
  · simp only
    omega
theorem learn_rest (e : Est) (x : Int) : (learnE e x).r = e.r ∧ (learnE e x).n = e.n ∧ (learnE e x).k = true := by
  unfold learnE
  split <;> exact ⟨rfl, rfl, rfl⟩
theorem pow_big {n : Int} (h0 : 0 ≤ n) (h : n ≤ 20) : (1 : Int) ≤ 2 ^ n.toNat ∧ (2 : Int) ^ n.toNat ≤ 1048576 := by
  obtain ⟨m, rfl⟩ : ∃ m : Nat, n = m := ⟨n.toNat, by omega⟩
  have hm : m ≤ 20 := by omega
  have h1 : 2 ^ m ≤ 2 ^ 20 := Nat.pow_le_pow_right (by decide) hm
  have h2 : 2 ^ 0 ≤ 2 ^ m := Nat.pow_le_pow_right (by decide) (Nat.zero_le _)
  simp only [Int.toNat_natCast]
  have h3 : (2 : Int) ^ m = ((2 ^ m : Nat) : Int) := by simp
  rw [h3]
  generalize 2 ^ m = y at *
  constructor
  · have : (1 : Nat) ≤ y := h2
    omega
  · have : y ≤ 1048576 := h1
    omega
theorem rto_big {p : Par} {e : Est} (h : May p e) : 1 ≤ e.r * 2 ^ e.n.toNat ∧ e.r * 2 ^ e.n.toNat ≤ 1099511627776 ∧ p.mi ≤ e.r * 2 ^ e.n.toNat := by
  obtain ⟨⟨h1, h2, h3, h4⟩, _, _, _, _, h5, h6, h7, h8, _⟩ := h
  have hp := pow_big h7 h8
  have a : e.r * 1 ≤ e.r * 2 ^ e.n.toNat := Int.mul_le_mul_of_nonneg_left hp.1 (by omega)
  have b : e.r * 2 ^ e.n.toNat ≤ 1048576 * 1048576 := Int.mul_le_mul (by omega) hp.2 (by omega) (by decide)
  omega
theorem wait_keep {p : Par} {e : Est} (h : May p e) : min (max (e.r * 2 ^ e.n.toNat) (max 1 p.mi)) (min 1048576 p.ma) = waitF p e := by
  have hb := rto_big h
  unfold waitF
  rw [if_pos h]
  obtain ⟨⟨h1, h2, h3, h4⟩, _⟩ := h
  omega
theorem May.keep {p : Par} {e : Est} (h : May p e) : keptE p e = e := by
  obtain ⟨⟨h1, h2, h3, h4⟩, a, b, c, d, f, g, i, j, _⟩ := h
  unfold keptE
  ext <;> simp only
  all_goals omega
theorem exp_keep {p : Par} {e : Est} (h : May p e) (hw : waitF p e < p.ma) : keptE p { e with n := e.n + 1 } = { e with n := e.n + 1 } ∧ e.n + 1 ≤ 20 := by
  have hn : e.n + 1 ≤ 20 := by
    by_cases hc : e.n = 20
    · exfalso
      unfold waitF at hw
      rw [if_pos h, hc] at hw
      obtain ⟨⟨h1, h2, h3, h4⟩, _, _, _, _, h5, _⟩ := h
      simp only [show ((20 : Int).toNat) = 20 from rfl, show (2 : Int) ^ 20 = 1048576 from by decide] at hw
      omega
    · have := h.2.2.2.2.2.2.2.2.1
      omega
  refine ⟨?_, hn⟩
  obtain ⟨⟨h1, h2, h3, h4⟩, a, b, c, d, f, g, i, j, _⟩ := h
  unfold keptE
  ext <;> simp only
  all_goals omega
theorem samp_keep {p : Par} {e : Est} (h : May p e) (x : Int) : keptE p ⟨(learnE e (trip x)).s, (learnE e (trip x)).v, (learnE e (trip x)).s / 8 + max (learnE e (trip x)).v 1, 0, true⟩ = sampF p e x := by
  have hl := learn_bounds (e := e) (x := trip x) h.2.1 h.2.2.1 h.2.2.2.1 h.2.2.2.2.1 (trip_bounds x).1 (trip_bounds x).2
  unfold sampF
  rw [if_pos h]
  obtain ⟨⟨h1, h2, h3, h4⟩, _⟩ := h
  unfold keptE
  generalize (learnE e (trip x)).s = S at *
  generalize (learnE e (trip x)).v = V at *
  ext <;> simp only
  all_goals omega

set_option maxHeartbeats 2000000 in
theorem Start_any (p : Par) (w : World) (hR : Rws w) :
    Calls Tryd.prog 12 #[paV p] w fun r w' => r = .returned (.tuple #[esV (startF p), .int .i64 (startE p)]) ∧ Below w.heap.size w w' := by
  have hp := PBox.of (heap_new1 w (paO p) zO)
  have hz := EBox.of (e := esZ) (heap_new2 w (paO p) zO)
  have hb := newBox2 w (paO p) zO
  have hT := hR.later hb (Nat.le_refl _)
  have hs : w.heap.size + 1 < ((w.alloc (paO p)).alloc zO).heap.size := by simp
  go_enter Tryd.func12, Tryd.ntmps12
  go_wp2_with fail
  refine (paramsMayBe_any p _ hT).mono ?_
  rintro r w1 ⟨rfl, hb1⟩
  have hp1 := hp.later hb1 (by omega)
  have hz1 := hz.later hb1 hs
  have hq1 := hb.trans (hb1.mono hb.size)
  clear hp hz hb hT hs hb1
  have hzk := hz1
  obtain ⟨p0, p1, p2⟩ := hp1
  obtain ⟨z0, z1, z2, z3, z4, g0, g1, g2, g3, g4⟩ := hz1
  by_cases ho : Ok p
  · rw [decide_eq_true ho]
    go_wp2
    refine bodyPost_ret (res_est2 rfl rfl (hzk.set ⟨0, 0, p.fi, 0, false⟩)) rfl ⟨?_, below_eset hq1 (Nat.le_succ _) ⟨0, 0, p.fi, 0, false⟩⟩
    simp only [startF, startE, if_pos ho]
    rfl
  · rw [decide_eq_false ho]
    go_wp2
    refine bodyPost_ret (res_est2 rfl rfl (hzk.set esZ)) rfl ⟨?_, below_eset hq1 (Nat.le_succ _) esZ⟩
    simp only [startF, startE, if_neg ho]
    rfl

end Go.Proofs.YtjaheoccofcklabDoor
